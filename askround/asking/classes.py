"""Classes of a key: the values that no condition of a form tells apart."""

from askround.asking.made import CONDITIONED, kinds_asked, made
from askround.errors import NoValue, TooWide
from askround.words.conditions import fits, pieces_of
from askround.words.keys import check_key
from askround.words.kinds import is_value

TOP_WIDTH = 2000


def classes_of(form, key):
    """The classes of a key of a form, each as (first value, how many)."""
    sieves = narrow_sieves(made(form))
    check_key(sieves, key)
    return sieves[key].classes


def class_of(form, key, value):
    """The number of the class that a value of a key of a form is in."""
    sieves = narrow_sieves(made(form))
    check_key(sieves, key)
    if not is_value(sieves[key].kind, value):
        raise NoValue("no value of the key's kind")
    return sieves[key].place_of(value)


def width_of(form):
    """The product of the numbers of classes of all keys of a form."""
    return width_by(sieves_by(made(form)))


def narrow_sieves(rows):
    """A dict from the keys that made rows ask to their sieves; too wide ones are refused."""
    sieves = sieves_by(rows)
    check_width(sieves)
    return sieves


def check_width(sieves):
    """Refuse a dict of sieves that is too wide."""
    if width_by(sieves) > TOP_WIDTH:
        raise TooWide("too wide")


def width_by(sieves):
    """The product of the numbers of classes of all keys of a dict of sieves."""
    width = 1
    for sieve in list(sieves.values()):
        width = width * len(sieve.classes)
    return width


def sieves_by(rows):
    """A dict from the keys that made rows ask to their sieves."""
    kinds = kinds_asked(rows)
    pieces = pieces_about(rows)
    return {key: Sieve(kinds[key], pieces[key]) for key in kinds}


def pieces_about(rows):
    """A dict from the keys that made rows ask to the pieces about them, each once, as (word, wanted)."""
    found = {key: {} for key in kinds_asked(rows)}
    for row in rows:
        if row[0] in CONDITIONED:
            for (word, key, wanted), _ in pieces_of(row[1]):
                found[key][(word, wanted)] = True
    return {key: list(found[key]) for key in found}


class Sieve:
    """What parts the values of a kind into classes: pieces, each as (word, wanted)."""

    def __init__(self, kind, pieces):
        self.kind = kind
        self.pieces = pieces
        self.classes = _count_classes(kind, pieces) if kind[0] == "count" else _option_classes(kind, pieces)

    def place_of(self, value):
        """The number of the class that a value is in."""
        if self.kind[0] == "count":
            return len([first for first, _ in self.classes if first <= value]) - 1
        found = _holding(self.pieces, value)
        return [_holding(self.pieces, first) for first, _ in self.classes].index(found)

    def truths(self, word, wanted):
        """Whether a piece holds, for each class."""
        return [fits(word, wanted, first) for first, _ in self.classes]


def _count_classes(kind, pieces):
    """The classes of a count."""
    _, low, high = kind
    # Millions of numbers are too many to look at each, so only those are where a piece begins or ends to hold.
    turns = [wanted if word == "from" else wanted + 1 for word, wanted in pieces]
    firsts = [low, *sorted({turn for turn in turns if low < turn <= high})]
    return tuple([(first, behind - first) for first, behind in zip(firsts, [*firsts[1:], high + 1])])


def _option_classes(kind, pieces):
    """The classes of a pick or a some."""
    firsts = {}
    many = {}
    for value in _values_in_order(kind):
        found = _holding(pieces, value)
        firsts.setdefault(found, value)
        many[found] = many.get(found, 0) + 1
    return tuple([(firsts[found], many[found]) for found in firsts])


def _values_in_order(kind):
    """All values of a pick or a some."""
    if kind[0] == "pick":
        return list(kind[1])
    values = [()]
    for option in kind[1]:
        values = values + [(*value, option) for value in values]
    return values


def _holding(pieces, value):
    """Whether each of the pieces holds for a value."""
    return tuple([fits(word, wanted, value) for word, wanted in pieces])
