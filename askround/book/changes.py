"""Books carried from a form to another one."""

from askround.book.entries import by_stamps, check_book, read_by, standing_in
from askround.errors import CannotGo, NoNames
from askround.forms.trees import check_form, kinds_of
from askround.words.kinds import is_name, is_value


def carried(form, book, other, names=None):
    """What of a book stands by a form, as a book of another form; names are pairs (old, new)."""
    check_form(form)
    check_book(book)
    check_form(other)
    check_names(names)
    news = dict(names or ())
    kinds = kinds_of(other)
    moved = {key: _moved(entry, news, kinds) for key, entry in standing_in(book, kinds_of(form)).items()}
    for key in read_by(form, book)[0]:
        if moved[key] is None:
            raise CannotGo(key)
    return by_stamps([entry for entry in moved.values() if entry is not None])


def check_names(thing):
    """Refuse what is no pairs of names, but for None, which tells none."""
    if thing is not None and not _are_pairs(thing):
        raise NoNames("no pairs of names, olds unlike, news unlike")


def _are_pairs(thing):
    """Whether a thing is a tuple of pairs of names, olds unlike, news unlike."""
    if not isinstance(thing, tuple) or not all([_is_pair(pair) for pair in thing]):
        return False
    return len({old for old, _ in thing}) == len(thing) and len({new for _, new in thing}) == len(thing)


def _is_pair(thing):
    """Whether a thing is a pair of names."""
    return isinstance(thing, tuple) and len(thing) == 2 and is_name(thing[0]) and is_name(thing[1])


def _moved(entry, news, kinds):
    """An entry that tells, for a form of these kinds; None where it can't go there."""
    moment, hand, (word, (name, person), value) = entry
    key = (_name_behind(name, news), person)
    if key not in kinds or not is_value(kinds[key], value):
        return None
    return (moment, hand, (word, key, value))


def _name_behind(name, news):
    """What a name becomes; no name where it goes nowhere."""
    if name in news:
        return news[name]
    return "" if name in list(news.values()) else name
