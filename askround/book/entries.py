"""Entries, books of them, and what a book says of a form."""

from askround.asking.plain import read
from askround.errors import Clash, Full, NoBook
from askround.forms.trees import check_form, homes_of, kinds_of, persons_of, questions_of, rows_of
from askround.words.conditions import pieces_of
from askround.words.keys import is_check, is_key
from askround.words.kinds import MOST_OPTIONS, are_names, is_name, is_number, is_value

MOST_ENTRIES = 200


def is_book(thing):
    """Whether a thing is a book."""
    if not isinstance(thing, tuple) or len(thing) > MOST_ENTRIES:
        return False
    return all([is_entry(entry) for entry in thing]) and len({stamp_of(entry) for entry in thing}) == len(thing)


def is_entry(thing):
    """Whether a thing is an entry."""
    if not isinstance(thing, tuple) or len(thing) != 3:
        return False
    moment, hand, deed = thing
    return is_stamp(moment, hand) and is_deed(deed)


def is_stamp(moment, hand):
    """Whether these are a moment and a hand."""
    return is_number(moment) and is_name(hand)


def is_deed(thing):
    """Whether a thing is what an entry may do."""
    if not isinstance(thing, tuple) or len(thing) not in (2, 3):
        return False
    if len(thing) == 3:
        return thing[0] == "tell" and is_key(thing[1]) and could_be_told(thing[2])
    return (thing[0] == "strike" and is_key(thing[1])) or (thing[0] == "let" and is_check(thing[1]))


def could_be_told(thing):
    """Whether a thing looks like a value of some kind."""
    return is_name(thing) or is_number(thing) or are_names(thing, 0, MOST_OPTIONS)


def check_book(thing):
    """Refuse what is no book."""
    if not is_book(thing):
        raise NoBook("no book")


def stamp_of(entry):
    """The stamp of an entry."""
    return entry[:2]


def by_stamps(entries):
    """Entries by their stamps, as a tuple."""
    return tuple(sorted(entries, key=stamp_of))


def joined(one, other):
    """All entries of two books, alike ones once, by stamps."""
    check_book(one)
    check_book(other)
    found = {}
    for entry in one + other:
        stamp = stamp_of(entry)
        if stamp in found and found[stamp] != entry:
            raise Clash("unlike entries have one stamp")
        found[stamp] = entry
    if len(found) > MOST_ENTRIES:
        raise Full("a book has no room for so many entries")
    return by_stamps(list(found.values()))


def answers_by(form, book):
    """A dict from the keys of a form to the answers that stand by a book."""
    check_form(form)
    check_book(book)
    return {key: entry[2][2] for key, entry in standing_in(book, kinds_of(form)).items()}


def standing_in(book, kinds):
    """A dict from keys, those of a dict of kinds in its order, to the entries that tell what stands by a book."""
    stands = {}
    for entry in by_stamps(book):
        deed = entry[2]
        if not counts(deed, kinds):
            continue
        if deed[0] == "tell":
            stands[deed[1]] = entry
        elif deed[1] in stands:
            del stands[deed[1]]
    return {key: stands[key] for key in kinds if key in stands}


def counts(deed, kinds):
    """Whether a deed is a tell or a strike that counts for a form of these keys and kinds."""
    if deed[0] == "let" or deed[1] not in kinds:
        return False
    return deed[0] == "strike" or is_value(kinds[deed[1]], deed[2])


def lets_by(form, book):
    """The soft checks of a form whose lets hold by a book, rising."""
    check_form(form)
    check_book(book)
    kinds = kinds_of(form)
    softs = softs_of(form)
    holding = {}
    for entry in by_stamps(book):
        deed = entry[2]
        if deed[0] == "let" and deed[1] in softs:
            holding[deed[1]] = True
        elif counts(deed, kinds):
            holding = {check: True for check in holding if deed[1] not in softs[check]}
    return tuple(sorted(holding))


def read_by(form, book):
    """What a form is read to by the answers that stand and the lets that hold by a book."""
    return read(form, answers_by(form, book), lets_by(form, book))


def softs_of(form):
    """A dict from the soft checks of what is known to be a form to the keys that their conditions name."""
    kinds = kinds_of(form)
    questions = questions_of(form)
    homes = homes_of(form)
    checks = [(step, home) for step, home in rows_of(form) if step[0] in ("hard", "soft")]
    softs = {}
    for number, (step, home) in enumerate(checks):
        if step[0] == "soft":
            for person in persons_of(home, questions, kinds):
                softs[(number, person)] = _keys_named(step[1], home, person, homes, kinds)
    return softs


def _keys_named(condition, home, person, homes, kinds):
    """The keys that a condition names, which stands in the round home and is asked for a person."""
    keys = []
    for piece, over in pieces_of(condition):
        name = piece[1]
        if over:
            keys.extend([key for key in kinds if key[0] == name])
        else:
            keys.append((name, person if homes[name] == home else 0))
    return keys
