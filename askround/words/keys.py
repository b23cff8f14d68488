"""Keys, which name an answer, and checks as they are told."""

from askround.errors import NoKey
from askround.words.kinds import is_name, is_whole

TOP_PERSON = 4
MOST_STEPS = 60


def is_person(thing):
    """Whether a thing is person 0 or one of the folk of a round."""
    return is_whole(thing) and 0 <= thing <= TOP_PERSON


def is_key(thing):
    """Whether a thing is a key of some form."""
    return isinstance(thing, tuple) and len(thing) == 2 and is_name(thing[0]) and is_person(thing[1])


def check_key(keys, thing):
    """Refuse what is none of these keys, which are those of a dict."""
    # is_key goes first: to Python a truth as person would be the key with 0 or 1.
    if not is_key(thing) or thing not in keys:
        raise NoKey("no key of the form")


def is_check(thing):
    """Whether a thing is a check of some form."""
    if not isinstance(thing, tuple) or len(thing) != 2:
        return False
    number, person = thing
    return is_whole(number) and 0 <= number < MOST_STEPS and is_person(person)
