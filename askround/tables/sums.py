"""Records crossed by lines, and such tables added."""

from askround.asking.plain import read
from askround.errors import NoFit, NoTable, NoWeights
from askround.forms.trees import check_form, questions_of
from askround.tables.fractions import ONE, ZERO, is_fraction, plus, sum_of
from askround.tables.records import MOST_LINES, check_lines, check_over, check_records
from askround.words.conditions import holds_by


def cross(form, records, rows, columns, weights=None, over=None):
    """Records by rows and columns: cells, the sums of rows and of columns, and of all."""
    check_form(form)
    check_records(form, records)
    check_over(form, over)
    check_lines(form, rows, over)
    check_lines(form, columns, over)
    worths = _worths_of(records, weights)
    found = {}
    for number, record in enumerate(records):
        for place in _places_of(form, number, record, (rows, columns), over):
            found[place] = plus(found.get(place, ZERO), worths[number])
    return _with_sums(tuple([_cells_in(found, at, len(columns)) for at in range(len(rows))]))


def _worths_of(records, weights):
    """What each record counts for; what is no weights is refused."""
    if weights is None:
        return [ONE for _ in records]
    if not isinstance(weights, tuple) or len(weights) != len(records):
        raise NoWeights("no tuple with a weight for each record")
    if not all([is_fraction(weight) and weight[0] >= 0 for weight in weights]):
        raise NoWeights("a weight is no fraction from 0 on")
    return weights


def _places_of(form, number, record, sides, over):
    """The row and the column that a record fits, over a round those of each person."""
    taken = {key: record[key] for key in read(form, record, None, True)[0]}
    folk = {home: taken.get((question, 0), 0) for home, question in questions_of(form).items()}
    persons = [0] if over is None else list(range(1, folk[over] + 1))
    places = []
    for person in persons:
        found = [_fitting(lines, taken, person, folk) for lines in sides]
        if not all([len(fitting) == 1 for fitting in found]):
            raise NoFit(number)
        places.append((found[0][0], found[1][0]))
    return places


def _fitting(lines, taken, person, folk):
    """The numbers of the lines that hold by answers taken, for a person."""
    return [at for at, line in enumerate(lines) if holds_by(line, taken, person, folk)]


def _cells_in(found, row, many):
    """So many cells of a row, those that weren't found as 0."""
    return tuple([found.get((row, column), ZERO) for column in range(many)])


def _with_sums(cells):
    """Cells with the sums of rows and of columns, and of all."""
    by_rows = tuple([sum_of(row) for row in cells])
    by_columns = tuple([sum_of(column) for column in zip(*cells)])
    return (cells, by_rows, by_columns, sum_of(by_rows))


def added(one, other):
    """Two tables of one size, added part by part."""
    if _size_of(one) is None or _size_of(one) != _size_of(other):
        raise NoTable("no two tables of one size")
    cells = tuple([_row_plus(row, more) for row, more in zip(one[0], other[0])])
    return (cells, _row_plus(one[1], other[1]), _row_plus(one[2], other[2]), plus(one[3], other[3]))


def _row_plus(row, more):
    """Two rows of fractions, added part by part."""
    return tuple([plus(part, other) for part, other in zip(row, more)])


def _size_of(thing):
    """How many rows and columns a table has; None of what is no table."""
    if not isinstance(thing, tuple) or len(thing) != 4:
        return None
    cells, by_rows, by_columns, whole = thing
    if not _are_fractions(by_rows) or not _are_fractions(by_columns) or not is_fraction(whole):
        return None
    if not isinstance(cells, tuple) or len(cells) != len(by_rows):
        return None
    if not all([_are_fractions(row) and len(row) == len(by_columns) for row in cells]):
        return None
    return (len(by_rows), len(by_columns))


def _are_fractions(thing):
    """Whether a thing is a tuple of fractions, as many as there can be lines."""
    return isinstance(thing, tuple) and 1 <= len(thing) <= MOST_LINES and all([is_fraction(part) for part in thing])
