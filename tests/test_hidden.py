import copy
import itertools
import random
import unittest

from askround.errors import NoCounts, NoPlace, NoPlaces
from askround.tables.hidden import bounds_at, given_away, shows_bounds
from tests.bends import bent
from tests.support import THINGS, TOP, alike, answer_truth, refuse

BILLION = 10 ** 9


def counts_in(text):
    """Counts, and the places hidden, written with blanks between; rows with semicolons; h behind what is hidden."""
    rows = [row.split() for row in text.split(";")]
    hidden = tuple((at, column) for at, row in enumerate(rows) for column, word in enumerate(row) if word[-1] == "h")
    return tuple(tuple(int(word.rstrip("h")) for word in row) for row in rows), hidden


def all_hidden(counts):
    return tuple(itertools.product(range(len(counts)), range(len(counts[0]))))


def sums(table):
    return [sum(row) for row in table], [sum(column) for column in zip(*table)]


def tables_of(counts, hidden):
    """All tables that can be, by trying."""
    rows, columns = sums(counts)
    found = [()]
    for at, row in enumerate(counts):
        choices = [range(min(rows[at], columns[column]) + 1) if (at, column) in hidden else [count] for column, count in enumerate(row)]
        fitting = [one for one in itertools.product(*choices) if sum(one) == rows[at]]
        found = [(*table, one) for table in found for one in fitting if all(sum(column) <= most for column, most in zip(zip(*table, one), columns))]
    return [table for table in found if sums(table) == (rows, columns)]


def whole(thing):
    return type(thing) is int


def right(counts, hidden, place, thing):
    """Whether a thing is told of a place, by the document's words, but for bounds that no paper shows."""
    if type(thing) is not tuple or len(thing) != 6:
        return False
    left = sums(tuple(tuple(count if (at, column) in hidden else 0 for column, count in enumerate(row)) for at, row in enumerate(counts)))
    for count, table, paper, sign in ((*thing[:3], 1), (*thing[3:], -1)):
        if not whole(count) or type(table) is not tuple or len(table) != len(counts) or not all(type(row) is tuple and len(row) == len(counts[0]) for row in table):
            return False
        if not all(whole(number) and number >= 0 for row in table for number in row) or sums(table) != sums(counts) or table[place[0]][place[1]] != count:
            return False
        if any(table[at][column] != counts[at][column] for at, column in all_hidden(counts) if (at, column) not in hidden):
            return False
        if type(paper) is not tuple or len(paper) != 2 or not all(type(side) is tuple for side in paper) or [len(side) for side in paper] != [len(side) for side in left]:
            return False
        if not all(whole(number) for side in paper for number in side):
            return False
        if sum(number * rest for side, rests in zip(paper, left) for number, rest in zip(side, rests)) != count:
            return False
        if any(sign * (paper[0][at] + paper[1][column]) > sign * ((at, column) == place) for at, column in hidden):
            return False
    return True


class TestBounds(unittest.TestCase):
    def told(self, counts, hidden, place):
        kept = copy.deepcopy((counts, hidden, place))
        found = bounds_at(counts, hidden, place)
        self.assertTrue(right(counts, hidden, place, found), (counts, hidden, place, found))
        self.assertTrue(answer_truth(self, shows_bounds, counts, hidden, place, found))
        self.assertTrue(alike(kept, (counts, hidden, place)))
        return found

    def assert_bounds(self, text, *bounds):
        """For each hidden place its least and greatest, written as least-greatest."""
        counts, hidden = counts_in(text)
        self.assertEqual(len(hidden), len(bounds))
        found = [self.told(counts, hidden, place) for place in hidden]
        self.assertEqual([f"{one[0]}-{one[3]}" for one in found], list(bounds))
        sure = tuple(place for place, bound in zip(hidden, bounds) if len(set(bound.split("-"))) == 1)
        self.assertTrue(alike(given_away(counts, hidden), sure))

    def test_one_cell(self):
        for count in (0, 1, 7, BILLION):
            self.assert_bounds(f"{count}h", f"{count}-{count}")
            self.assert_bounds(f"{count}")

    def test_one_row_and_one_column(self):
        self.assert_bounds("3h 4h 0h", "3-3", "4-4", "0-0")
        self.assert_bounds("3h; 4h; 0h", "3-3", "4-4", "0-0")
        self.assert_bounds("3 4h 0", "4-4")
        self.assert_bounds("1h 2h 3h 4h 5h 6h", "1-1", "2-2", "3-3", "4-4", "5-5", "6-6")
        self.assert_bounds("1; 2h; 3; 4; 5h; 6", "2-2", "5-5")

    def test_nothing_else_hidden(self):
        self.assert_bounds("3h 4; 5 6", "3-3")
        self.assert_bounds("0 0 0; 0 0h 0; 0 0 0", "0-0")
        self.assert_bounds("3h 4; 5 6h", "3-3", "6-6")

    def test_two_by_two(self):
        self.assert_bounds("3h 4h; 5h 6h", "0-7", "0-7", "1-8", "3-10")
        self.assert_bounds("0h 4h; 5h 0h", "0-4", "0-4", "1-5", "0-4")
        self.assert_bounds("0h 0h; 0h 0h", "0-0", "0-0", "0-0", "0-0")
        self.assert_bounds("9h 0h; 0h 9h", "0-9", "0-9", "0-9", "0-9")
        self.assert_bounds("1h 9h; 0h 3h", "0-1", "9-10", "0-1", "2-3")
        self.assert_bounds(f"{BILLION}h {BILLION}h; {BILLION}h {BILLION}h", *[f"0-{2 * BILLION}"] * 4)
        self.assert_bounds(f"{BILLION}h 0h; 0h 0h", f"{BILLION}-{BILLION}", "0-0", "0-0", "0-0")
        self.assert_bounds(f"{BILLION}h 0h; 0h 1h", f"{BILLION - 1}-{BILLION}", "0-1", "0-1", "0-1")

    def test_a_row_and_a_column_hidden(self):
        self.assert_bounds("1h 2h 3h; 4 5 6; 7 8 9", "1-1", "2-2", "3-3")
        self.assert_bounds("1h 2 3; 4h 5 6; 7h 8 9", "1-1", "4-4", "7-7")
        self.assert_bounds("1h 2h 3h; 4h 5 6; 7h 8 9", *["1-1", "2-2", "3-3", "4-4", "7-7"])

    def test_rings(self):
        self.assert_bounds("1h 2h 9; 9 3h 4h; 5h 9 6h", "0-3", "0-3", "2-5", "2-5", "3-6", "5-8")
        self.assert_bounds("1h 2h 9 9; 3h 4h 9 9; 9 9 5h 6h; 9 9 7h 0h", "0-3", "0-3", "1-4", "3-6", "5-11", "0-6", "1-7", "0-6")
        # Two rings with one place between them that is in no ring.
        self.assert_bounds("1h 2h 9 9; 3h 4h 8h 9; 9 9 5h 6h; 9 9 7h 0h", "0-3", "0-3", "1-4", "3-6", "8-8", "5-11", "0-6", "1-7", "0-6")

    def test_more_ways_than_one(self):
        self.assert_bounds("1h 1h 1h; 1h 1h 1h", *["0-2"] * 6)
        self.assert_bounds("2h 0h 0h; 0h 2h 0h; 0h 0h 2h", *["0-2"] * 9)
        self.assert_bounds("5h 0h 0h; 1h 1h 0h; 0h 0h 1h", "3-5", "0-1", "0-1", "0-2", "0-1", "0-1", "0-1", "0-1", "0-1")

    def test_all_six_by_six(self):
        chance = random.Random(115)
        for numbers in ((0,), (BILLION,), (0, BILLION), (0, 0, 1), (0, 1, 2, 3), None):
            for _ in range(3):
                counts = tuple(tuple(chance.choice(numbers) if numbers else chance.randrange(BILLION + 1) for _ in range(6)) for _ in range(6))
                hidden = all_hidden(counts)
                rows, columns = sums(counts)
                total = sum(rows)
                found = {place: self.told(counts, hidden, place) for place in hidden}
                for row, column in hidden:
                    self.assertEqual(found[(row, column)][0], max(0, rows[row] + columns[column] - total))
                    self.assertEqual(found[(row, column)][3], min(rows[row], columns[column]))
                self.assertEqual(given_away(counts, hidden), tuple(place for place in hidden if found[place][0] == found[place][3]))

    def test_small_ones_by_trying_at_random(self):
        chance = random.Random(116)
        seen = {"sure": 0, "unsure": 0}
        while min(seen.values()) < 400:
            rows, columns = chance.randrange(1, 4), chance.randrange(1, 4)
            counts = tuple(tuple(chance.choice((0, 0, 1, 2, 3)) for _ in range(columns)) for _ in range(rows))
            hidden = tuple(place for place in all_hidden(counts) if chance.random() < 0.8)
            tables = tables_of(counts, hidden)
            sure = []
            for row, column in hidden:
                found = self.told(counts, hidden, (row, column))
                numbers = [table[row][column] for table in tables]
                self.assertEqual((found[0], found[3]), (min(numbers), max(numbers)))
                sure += [(row, column)] if len(set(numbers)) == 1 else []
            self.assertTrue(alike(given_away(counts, hidden), tuple(sure)))
            seen["sure"] += len(sure)
            seen["unsure"] += len(hidden) - len(sure)

    def test_great_ones_at_random(self):
        chance = random.Random(117)
        for _ in range(150):
            rows, columns = chance.randrange(1, 7), chance.randrange(1, 7)
            counts = tuple(tuple(chance.choice((0, 1, BILLION, chance.randrange(BILLION))) for _ in range(columns)) for _ in range(rows))
            hidden = tuple(place for place in all_hidden(counts) if chance.random() < chance.choice((0.3, 0.6, 0.9)))
            sure = [place for place in hidden if self.told(counts, hidden, place)[0] == self.told(counts, hidden, place)[3]]
            self.assertTrue(alike(given_away(counts, hidden), tuple(sure)))

    def test_nothing_hidden(self):
        for text in ("1", "1 2; 3 4", "0 0 0 0 0 0"):
            self.assertTrue(alike(given_away(counts_in(text)[0], ()), ()))


class TestShowsBounds(unittest.TestCase):
    def shows(self, counts, hidden, place, thing):
        shown = answer_truth(self, shows_bounds, counts, hidden, place, thing)
        self.assertIs(shown, right(counts, hidden, place, thing), thing)
        return shown

    def test_other_tables_and_papers(self):
        counts, hidden = counts_in("3h 4h; 5h 6h")
        least, greatest = ((0, 7), (8, 3)), ((7, 0), (1, 10))
        none, most = ((0, 0), (0, 0)), ((1, 0), (0, 0))
        self.assertTrue(self.shows(counts, hidden, (0, 0), (0, least, none, 7, greatest, most)))
        for paper in (((5, 5), (-5, -5)), ((TOP, TOP), (-TOP, -TOP)), ((-1, -1), (1, 1)), ((10 ** 99, 10 ** 99), (-10 ** 99, -10 ** 99))):
            self.assertTrue(self.shows(counts, hidden, (0, 0), (0, least, paper, 7, greatest, most)))
        for paper in (((0, -1), (1, 1)), ((2, 1), (-1, -1))):
            self.assertTrue(self.shows(counts, hidden, (0, 0), (0, least, none, 7, greatest, paper)))
        for paper in (((1, 0), (0, 0)), ((0, 0), (1, 0)), ((-1, 0), (0, 0)), ((1, 0), (0, -1)), none[:1], (*none, ()), none[0], ((0,), (0, 0)), ((0, 0, 0), (0, 0)), ((0, 0), (False, 0)), ((0, 0), None), ([0, 0], (0, 0)), None):
            self.assertFalse(self.shows(counts, hidden, (0, 0), (0, least, paper, 7, greatest, most)))
        for table in (greatest, counts, ((0, 7), (8, 4)), ((0, 7), (7, 4)), ((0, 7),), ((0, 7, 0), (8, 3, 0)), ((0, 7), [8, 3]), ((False, 7), (8, 3)), ((0, 7), (8, None)), ((1, 6), (7, 4)), ((0, 8), (8, 2)), None):
            self.assertFalse(self.shows(counts, hidden, (0, 0), (0, table, none, 7, greatest, most)))
        # Bounds that all tables have, but none meets; and such that a table has, but that no paper shows.
        self.assertFalse(self.shows(counts, hidden, (0, 0), (0, least, none, 8, greatest, most)))
        self.assertFalse(self.shows(counts, hidden, (0, 0), (3, counts, none, 7, greatest, most)))
        self.assertFalse(self.shows(counts, hidden, (0, 0), (0, least, none, 3, counts, most)))
        self.assertFalse(self.shows(counts, hidden, (0, 0), (False, least, none, 7, greatest, most)))

    def test_a_table_with_other_counts_where_they_are_shown(self):
        counts, hidden = counts_in("3h 4h 1; 5h 6h 2; 1 1 1")
        found = bounds_at(counts, hidden, (0, 0))
        bend = ((0, 6, 2), (8, 4, 1), (1, 1, 1))
        self.assertTrue(self.shows(counts, hidden, (0, 0), found))
        self.assertFalse(self.shows(counts, hidden, (0, 0), (0, bend, *found[2:])))
        # Below 0 no count can be, there or elsewhere.
        counts, hidden = counts_in("1h 1h 1h; 1h 1h 1h")
        found = bounds_at(counts, hidden, (0, 0))
        for table in (((0, 4, -1), (2, -2, 3)), ((0, 3, 0), (2, -1, 2)), ((0, -1, 4), (2, 3, -2))):
            self.assertFalse(self.shows(counts, hidden, (0, 0), (0, table, *found[2:])))
        for table in (((2, 2, -1), (0, 0, 3)), ((2, -1, 2), (0, 3, 0))):
            self.assertFalse(self.shows(counts, hidden, (0, 0), (*found[:4], table, found[5])))
        counts, hidden = counts_in("3h 4h; 5h 6h")
        self.assertFalse(self.shows(counts, hidden, (0, 0), (-1, ((-1, 8), (9, 2)), ((0, 0), (0, 0)), 7, ((7, 0), (1, 10)), ((1, 0), (0, 0)))))

    def test_many_of_one_place(self):
        counts, hidden = counts_in("1h 1h 1h; 1h 1h 1h")
        for tables in itertools.product(tables_of(counts, hidden), repeat=2):
            thing = (0, tables[0], ((0, 0), (0, 0, 0)), 2, tables[1], ((0, 0), (1, 0, 0)))
            self.assertIs(self.shows(counts, hidden, (1, 0), thing), (tables[0][1][0], tables[1][1][0]) == (0, 2))

    def test_of_another_place(self):
        counts, hidden = counts_in("1h 9h; 0h 3h")
        for place in hidden:
            for other in hidden:
                self.assertIs(self.shows(counts, hidden, other, bounds_at(counts, hidden, place)), place == other)

    def test_of_anything_a_truth_is_told(self):
        counts, hidden = counts_in("3h 4h; 5h 6h")
        told = bounds_at(counts, hidden, (0, 0))
        for thing in [*THINGS, list(told), told[:5], (*told, 0), told[::-1], (told,), {0: told}, told[3:] + told[:3], told[:3] * 2]:
            self.assertFalse(answer_truth(self, shows_bounds, counts, hidden, (0, 0), thing), thing)
        for thing in THINGS:
            for at in range(6):
                if not (at == 0 and alike(thing, 0)):
                    bend = (*told[:at], thing, *told[at + 1:])
                    self.assertFalse(answer_truth(self, shows_bounds, counts, hidden, (0, 0), bend), bend)

    def test_bent_at_random(self):
        chance = random.Random(118)
        seen = {True: 0, False: 0}
        for _ in range(5000):
            counts = tuple(tuple(chance.choice((0, 0, 1, 5)) for _ in range(3)) for _ in range(2))
            hidden = tuple(place for place in all_hidden(counts) if chance.random() < 0.8)
            if hidden:
                place = chance.choice(hidden)
                seen[self.shows(counts, hidden, place, bent(chance, bounds_at(counts, hidden, place)))] += 1
        self.assertGreater(min(seen.values()), 100, seen)


class TestRefusals(unittest.TestCase):
    COUNTS, HIDDEN = counts_in("3h 4h; 5h 6")

    def assert_refused(self, error, counts, hidden, place=(0, 0)):
        refuse(self, error, bounds_at, counts, hidden, place)
        for thing in (None, (), (0, ((0,),), ((0,), (0,)), 0, ((0,),), ((0,), (0,)))):
            refuse(self, error, shows_bounds, counts, hidden, place, thing)
        if error is not NoPlace:
            refuse(self, error, given_away, counts, hidden)

    def test_no_counts(self):
        wrong = [
            ((),), ((), ()), ((1, 2), (3,)), ((1,), (2, 3)), ((1,), ()), ((1,) * 7,), ((1,),) * 7, ((1,) * 7,) * 7, ((-1,),), ((BILLION + 1,),), ((TOP,),), ((-TOP,),), ((True,),), ((False,),), ((None,),), (("1",),), ((1, "2"),), ((1, (2,)),),
            ([1],), [(1,)], (1,), 1, {}, None, "1", ((1,), None), ((1,), [1]), {(1,): 0}, ((1, 2), (3, True)), ((1,) * 6,) * 5 + ((1,) * 5,),
        ]
        for thing in [*wrong, *THINGS]:
            for hidden in ((), ((0, 0),), None, [], ((9, 9),)):
                self.assert_refused(NoCounts, thing, hidden, None)

    def test_counts_of_each_size(self):
        for rows in range(1, 7):
            for columns in range(1, 7):
                counts = ((BILLION,) * columns,) * rows
                self.assertEqual(given_away(counts, ()), ())
                self.assertEqual(given_away(counts, ((0, 0),)), ((0, 0),))

    def test_no_places(self):
        wrong = [
            ((0, 0), (0, 0)), ((0, 1), (0, 0)), ((1, 0), (0, 1)), ((0, 0), (1, 0), (0, 1)), ((0, 0), (0, 1), (0, 1)), ((2, 0),), ((0, 2),), ((-1, 0),), ((0, -1),), ((TOP, 0),), ((0, TOP),), ((True, 0),), ((0, False),), ((0, True),), ((0,),), ((0, 0, 0),),
            ([0, 0],), [(0, 0)], (0, 0), ((0, 0), None), ((0, 0), (1, None)), ((0, 0), "1"), None, {}, "", 0, True, {(0, 0): 1}, (((0, 0),),), ((0, 0), (0, "1")), ((0, 0), (1, 0), (2, 0)), ((0, 0),) * 2, (None,), ("00",),
        ]
        for thing in [*wrong, *THINGS]:
            if not alike(thing, ()) and not alike(thing, ((0, 0),)):
                for place in ((0, 0), (9, 9), None):
                    self.assert_refused(NoPlaces, self.COUNTS, thing, place)
        for hidden in ((), ((0, 0),), ((0, 0), (1, 1)), ((0, 1), (1, 0)), all_hidden(self.COUNTS)):
            self.assertEqual(type(given_away(self.COUNTS, hidden)), tuple)

    def test_no_place(self):
        wrong = [(1, 1), (2, 0), (0, 2), (-1, 0), (0, -1), (-2, -2), (TOP, 0), (False, False), (False, 0), (0, False), (True, 0), (0, True), (0,), (0, 0, 0), [0, 0], ((0, 0),), "00", 0, None, True, (), {}, {(0, 0): 1}, ("0", 0), (0, None), (0, (0,)), ([0], 0)]
        for thing in [*wrong, *THINGS]:
            if not alike(thing, (0, 0)):
                self.assert_refused(NoPlace, self.COUNTS, self.HIDDEN, thing)
            self.assert_refused(NoPlace, self.COUNTS, (), thing)
