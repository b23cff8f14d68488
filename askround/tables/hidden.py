"""Hidden counts: what they are at least and at most by the sums that are shown, with papers that show it."""

from askround.errors import NoCounts, NoPlace, NoPlaces
from askround.words.kinds import is_whole

MOST_LINES = 6
TOP_COUNT = 1000000000
LEAST = -1
GREATEST = 1


def bounds_at(counts, hidden, place):
    """The least and the greatest count at a hidden place, each with a table that has it and a paper that shows it."""
    _check_counts(counts)
    _check_places(counts, hidden)
    _check_place(hidden, place)
    return (*_bound(counts, hidden, place, LEAST), *_bound(counts, hidden, place, GREATEST))


def given_away(counts, hidden):
    """The hidden places whose least is their greatest, rising."""
    _check_counts(counts)
    _check_places(counts, hidden)
    return tuple([place for place in hidden if _is_sure(counts, hidden, place)])


def _is_sure(counts, hidden, place):
    """Whether a hidden place has one count in all tables that can be."""
    return _bound(counts, hidden, place, LEAST)[0] == _bound(counts, hidden, place, GREATEST)[0]


def _bound(counts, hidden, place, turn):
    """The least or the greatest count at a hidden place, a table and a paper."""
    others = [other for other in hidden if other != place]
    # What the place is turned by is made up for at other places, round about, until there is no way round any more.
    begin, goal = ((0, place[0]), (1, place[1])) if turn == LEAST else ((1, place[1]), (0, place[0]))
    table = counts
    came = _reached(table, others, begin)
    many = _most_round(table, place, turn, came, goal)
    while many > 0:
        table = _turned(table, _places_round(place, turn, came, goal), many)
        came = _reached(table, others, begin)
        many = _most_round(table, place, turn, came, goal)
    paper = _paper(table, {} if goal in came else came, turn)
    return (table[place[0]][place[1]], table, paper)


def _reached(table, others, begin):
    """A dict from the lines on the ways from a line, at which something is wrong, to the line ahead of each.

    A line is (0, a row) or (1, a column). A row that has too little puts more to one of its places, so that the column
    there has too much; such a column takes from one of its places that has any, so that the row there has too little.
    """
    came = {begin: None}
    layer = [begin]
    while layer:
        found = []
        for line in layer:
            for behind in _lines_behind(table, others, line):
                if behind not in came:
                    came[behind] = line
                    found.append(behind)
        layer = found
    return came


def _lines_behind(table, others, line):
    """The lines at which something is wrong as soon as it is put right at a line."""
    side, at = line
    if side == 0:
        return [(1, column) for row, column in others if row == at]
    return [(0, row) for row, column in others if column == at and table[row][column] > 0]


def _places_round(place, turn, came, goal):
    """The places on the way round, each as (place, whether more is put there or less)."""
    found = [(place, turn)]
    line = goal
    while came[line] is not None:
        ahead = came[line]
        if ahead[0] == 0:
            found.append(((ahead[1], line[1]), 1))
        else:
            found.append(((line[1], ahead[1]), -1))
        line = ahead
    return found


def _most_round(table, place, turn, came, goal):
    """How much all places on the way round can be turned by; 0 where there is no way."""
    if goal not in came:
        return 0
    return min([table[row][column] for (row, column), sign in _places_round(place, turn, came, goal) if sign < 0])


def _turned(table, places, many):
    """A table with so much more or less at the places of a way round."""
    turns = {place: sign * many for place, sign in places}
    return tuple([
        tuple([count + turns.get((at, column), 0) for column, count in enumerate(row)]) for at, row in enumerate(table)
    ])


def _paper(table, reached, turn):
    """The row numbers and the column numbers: of those reached, by which side they are on, else 0."""
    rows = [-turn if (0, at) in reached else 0 for at in range(len(table))]
    columns = [turn if (1, at) in reached else 0 for at in range(len(table[0]))]
    return (tuple(rows), tuple(columns))


def shows_bounds(counts, hidden, place, thing):
    """Whether a thing shows what a hidden place has at least and at most."""
    _check_counts(counts)
    _check_places(counts, hidden)
    _check_place(hidden, place)
    if not isinstance(thing, tuple) or len(thing) != 6:
        return False
    return _shows(counts, hidden, place, thing[:3], LEAST) and _shows(counts, hidden, place, thing[3:], GREATEST)


def _shows(counts, hidden, place, told, turn):
    """Whether a count, a table and a paper show the least or the greatest."""
    count, table, paper = told
    if not is_whole(count) or not _can_be(counts, hidden, table) or table[place[0]][place[1]] != count:
        return False
    if not isinstance(paper, tuple) or len(paper) != 2:
        return False
    rows, columns = paper
    if not _are_wholes(rows, len(counts)) or not _are_wholes(columns, len(counts[0])):
        return False
    for row, column in hidden:
        bound = 1 if (row, column) == place else 0
        if turn * (rows[row] + columns[column]) < turn * bound:
            return False
    # A hidden count is once in its row and once in its column, so this is the numbers times what is left.
    return sum([(rows[row] + columns[column]) * counts[row][column] for row, column in hidden]) == count


def _can_be(counts, hidden, thing):
    """Whether a thing is a table that has all that is shown."""
    if not isinstance(thing, tuple) or len(thing) != len(counts):
        return False
    if not all([_are_wholes(row, len(counts[0])) and min(row) >= 0 for row in thing]):
        return False
    for at, row in enumerate(counts):
        for column, count in enumerate(row):
            if (at, column) not in hidden and thing[at][column] != count:
                return False
    return _sums_of(thing) == _sums_of(counts)


def _are_wholes(thing, many):
    """Whether a thing is a tuple of so many whole numbers."""
    return isinstance(thing, tuple) and len(thing) == many and all([is_whole(part) for part in thing])


def _sums_of(table):
    """The sums of the rows and of the columns of a table."""
    return ([sum(row) for row in table], [sum(column) for column in zip(*table)])


def _check_counts(thing):
    """Refuse what is no counts."""
    if not isinstance(thing, tuple) or not 1 <= len(thing) <= MOST_LINES or not all([_is_row(row) for row in thing]):
        raise NoCounts("no rows of counts")
    if not all([len(row) == len(thing[0]) for row in thing]):
        raise NoCounts("rows of unlike lengths")


def _is_row(thing):
    """Whether a thing is a tuple of counts, as many as there can be columns."""
    if not isinstance(thing, tuple) or not 1 <= len(thing) <= MOST_LINES:
        return False
    return all([is_whole(count) and 0 <= count <= TOP_COUNT for count in thing])


def _check_places(counts, thing):
    """Refuse what is no rising tuple of places of counts."""
    if not isinstance(thing, tuple) or not all([_is_place(counts, place) for place in thing]):
        raise NoPlaces("no places")
    if not all([place < behind for place, behind in zip(thing, thing[1:])]):
        raise NoPlaces("places that don't rise")


def _is_place(counts, thing):
    """Whether a thing is a place of counts."""
    if not isinstance(thing, tuple) or len(thing) != 2 or not all([is_whole(part) for part in thing]):
        return False
    return 0 <= thing[0] < len(counts) and 0 <= thing[1] < len(counts[0])


def _check_place(hidden, thing):
    """Refuse what is no hidden place."""
    # Whole numbers are looked for first: to Python a truth would be a place's 0 or 1.
    if not isinstance(thing, tuple) or not all([is_whole(part) for part in thing]) or thing not in hidden:
        raise NoPlace("no hidden place")
