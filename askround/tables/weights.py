"""Weights of records by margins, or a clash that shows that there are none."""

from math import lcm

from askround.errors import NoFits, NoTotals
from askround.tables.fractions import fraction, is_fraction, sum_of
from askround.words.kinds import is_whole

MOST_ROWS = 12
MOST_MARGINS = 10
TOP = 1000


def weights_for(fits, totals):
    """Weights by which each margin comes to its total: ("weights", fractions), or ("clash", numbers)."""
    _check_fits(fits)
    _check_totals(fits, totals)
    share = 1
    for _, bottom in totals:
        share = lcm(share, bottom)
    wanted = [top * share // bottom for top, bottom in totals]
    search = Search(fits, wanted)
    search.go()
    if search.missing() > 0:
        return ("clash", search.numbers())
    return ("weights", search.weights(share))


class Search:
    """A search for weights that come to whole totals, by the simplex method in whole numbers alone.

    Each row stands for a margin: what each record counts in it, which margins were put together to it, and what they
    come to. Below them stands the sum of those rows that no record fills yet. All are times the last pivot.
    """

    def __init__(self, fits, wanted):
        self.many = len(fits)
        self.signs = [-1 if total < 0 else 1 for total in wanted]
        rows = [self._begun(fits, at, total) for at, total in enumerate(wanted)]
        self.rows = [*rows, [sum(column) for column in zip(*rows)]]
        # What fills each row: a record's number, or one from many on where none does yet.
        self.fillers = [self.many + at for at in range(len(wanted))]
        self.pivot = 1

    def _begun(self, fits, at, total):
        """The row of a margin at first."""
        sign = self.signs[at]
        own = [sign if row[at] else 0 for row in fits]
        return [*own, *[1 if at == one else 0 for one in range(len(self.signs))], sign * total]

    def go(self):
        """Go on until no record can fill more."""
        column = self._entering()
        while column is not None:
            self._turn(self._leaving(column), column)
            column = self._entering()

    def missing(self):
        """What no record fills, in all."""
        return self.rows[-1][-1]

    def weights(self, share):
        """The weights found, for totals that are a share of those wanted."""
        found = {filler: row[-1] for filler, row in zip(self.fillers, self.rows)}
        return tuple([fraction(found.get(record, 0), self.pivot * share) for record in range(self.many)])

    def numbers(self):
        """How often each margin is in the last row: no record counts in it to more than 0, yet it comes to more."""
        return tuple([sign * part for sign, part in zip(self.signs, self.rows[-1][self.many:-1])])

    def _entering(self):
        """The first record that can fill more; None where none can."""
        for record in range(self.many):
            if self.rows[-1][record] > 0:
                return record
        return None

    def _leaving(self, column):
        """The row that a record fills first."""
        found = [at for at, row in enumerate(self.rows[:-1]) if row[column] > 0]
        first = found[0]
        for at in found[1:]:
            if self._is_sooner(at, first, column):
                first = at
        return first

    def _is_sooner(self, at, other, column):
        """Whether a row is filled sooner than another one."""
        row, last = self.rows[at], self.rows[other]
        ahead, behind = row[-1] * last[column], last[-1] * row[column]
        # Of rows that are filled at once always the first filler leaves, so that the search comes to an end.
        return ahead < behind or (ahead == behind and self.fillers[at] < self.fillers[other])

    def _turn(self, at, column):
        """Let a record fill a row, and clear it from all others."""
        own = self.rows[at]
        cleared = [own if row == at else self._cleared(self.rows[row], own, column) for row in range(len(self.rows))]
        self.rows = cleared
        self.pivot = own[column]
        self.fillers[at] = column

    def _cleared(self, row, own, column):
        """A row from which a record is cleared by another row, its own."""
        return [(part * own[column] - row[column] * other) // self.pivot for part, other in zip(row, own)]


def shows_weights(fits, totals, thing):
    """Whether a thing is weights by which each margin comes to its total, or a clash that shows that there are none."""
    _check_fits(fits)
    _check_totals(fits, totals)
    if not isinstance(thing, tuple) or len(thing) != 2 or not isinstance(thing[1], tuple):
        return False
    if thing[0] == "weights":
        return _meet(fits, totals, thing[1])
    return thing[0] == "clash" and _clash(fits, totals, thing[1])


def _meet(fits, totals, weights):
    """Whether a tuple is weights by which each margin comes to its total."""
    if len(weights) != len(fits) or not all([is_fraction(weight) and weight[0] >= 0 for weight in weights]):
        return False
    for at, total in enumerate(totals):
        if sum_of([weight for row, weight in zip(fits, weights) if row[at]]) != total:
            return False
    return True


def _clash(fits, totals, numbers):
    """Whether a tuple is numbers that show that there are no weights."""
    if len(numbers) != len(totals) or not all([is_whole(number) for number in numbers]):
        return False
    if not all([sum([number for number, held in zip(numbers, row) if held]) <= 0 for row in fits]):
        return False
    return sum_of([fraction(number * top, bottom) for number, (top, bottom) in zip(numbers, totals)])[0] > 0


def _check_fits(thing):
    """Refuse what is no fits."""
    if not isinstance(thing, tuple) or len(thing) > MOST_ROWS or not all([_is_row(row) for row in thing]):
        raise NoFits("no rows of truths")
    if not all([len(row) == len(thing[0]) for row in thing]):
        raise NoFits("rows of unlike lengths")


def _is_row(thing):
    """Whether a thing is a tuple of truths, as many as there can be margins."""
    if not isinstance(thing, tuple) or not 1 <= len(thing) <= MOST_MARGINS:
        return False
    return all([isinstance(held, bool) for held in thing])


def _check_totals(fits, thing):
    """Refuse what is no totals for fits."""
    if not isinstance(thing, tuple) or not 1 <= len(thing) <= MOST_MARGINS:
        raise NoTotals("no tuple of as many totals as there can be margins")
    if fits and len(thing) != len(fits[0]):
        raise NoTotals("not one total for each margin")
    if not all([_is_total(total) for total in thing]):
        raise NoTotals("a total is no fraction in bounds")


def _is_total(thing):
    """Whether a thing is a fraction in the bounds of totals."""
    return is_fraction(thing) and -TOP <= thing[0] <= TOP and thing[1] <= TOP
