import copy
import random
import unittest
from fractions import Fraction

from askround.errors import NoFit, NoLines, NoRecord, NoRound, NoTable, NoWeights
from askround.forms.trees import is_form
from askround.tables.fractions import is_fraction
from askround.tables.records import are_lines, are_records
from askround.tables.sums import added, cross
from tests import made_rows
from tests.bends import bent
from tests.chance import random_answers, random_form
from tests.support import THINGS, TOP, alike, refuse, refuse_form
from tests.test_changes import NO_FORMS
from tests.test_records import NO_ROUNDS, records, rounds_in
from tests.trees import condition, form

STEPS = form("ask a pick x y z / ask n count 0 4 / soft a is x / each r n / ask c pick x y / if c is x / ask d some x y / end / end / ask b some x y")
SKIPPED = form("ask n count 0 4 / ask a pick x y / part p / leave p a is x / each r n / leave p n from 4 / ask c pick x y / end / end / if a is y / ask b pick x y / end")
A = "a is x / a is y / a is z"
N = "n to 0 / ( n from 1 and n to 2 ) / n from 3"
B = "b has x / not b has x"
FOUR = records("a=x n=0 b=+", "a=y n=1 c1=y b=+x", "a=x n=4 c1=x d1=+ c2=y c3=y c4=x d4=+x+y b=+x+y", "a=z n=2 c1=x d1=+x c2=x d2=+y b=+")
ONE = (1, 1)


def lines(text):
    return tuple(condition(part) for part in text.split(" / "))


def ints(*numbers):
    return tuple((number, 1) for number in numbers)


def cells_in(text):
    """Cells, written as A or A/B with blanks between, rows with semicolons between."""
    return tuple(tuple(fraction_in(word) for word in row.split()) for row in text.split(";"))


def fraction_in(word):
    p, _, q = word.partition("/")
    return (int(p), int(q or 1))


def pair_of(number):
    number = Fraction(number)
    return (number.numerator, number.denominator)


def with_sums(cells):
    by_rows = tuple(pair_of(sum(Fraction(*cell) for cell in row)) for row in cells)
    by_columns = tuple(pair_of(sum(Fraction(*row[at]) for row in cells)) for at in range(len(cells[0])))
    return (cells, by_rows, by_columns, pair_of(sum(Fraction(*cell) for row in cells for cell in row)))


class TestCross(unittest.TestCase):
    def assert_crossed(self, found, rows, columns, cells, weights=None, over=None, steps=STEPS):
        rows, columns = lines(rows), lines(columns)
        self.assertTrue(is_form(steps))
        self.assertTrue(are_records(steps, found))
        self.assertTrue(are_lines(steps, rows, over) and are_lines(steps, columns, over))
        kept = copy.deepcopy((steps, found, rows, columns, weights))
        told = cross(steps, found, rows, columns, weights, over)
        self.assertTrue(alike(told, with_sums(cells_in(cells))), told)
        self.assertTrue(alike(kept, (steps, found, rows, columns, weights)))
        self.assertTrue(alike(cross(steps, found, rows, columns, over=over, weights=weights), told))
        turned = cross(steps, found, columns, rows, weights, over)
        self.assertTrue(alike(turned, (tuple(zip(*told[0])), told[2], told[1], told[3])))
        if weights is None:
            self.assertTrue(alike(cross(steps, found, rows, columns, (ONE,) * len(found), over), told))
            if over is None:
                self.assertTrue(alike(cross(steps, found, rows, columns), told))
        return told

    def refuse_fit(self, number, found, rows, columns, weights=None, over=None, steps=STEPS):
        self.assertTrue(are_records(steps, found))
        self.assertEqual(refuse(self, NoFit, cross, steps, found, lines(rows), lines(columns), weights, over).number, number)

    def test_by_hand(self):
        told = cross(STEPS, FOUR, lines(A), lines(B))
        self.assertTrue(alike(told, (
            (ints(1, 1), ints(1, 0), ints(0, 1)), ints(2, 1, 1), ints(2, 2), (4, 1),
        )), told)

    def test_cells(self):
        self.assert_crossed(FOUR, A, N, "1 0 1; 0 1 0; 0 1 0")
        self.assert_crossed(FOUR[:1], A, N, "1 0 0; 0 0 0; 0 0 0")
        self.assert_crossed(FOUR, A, "a is x / not a is x", "2 0; 0 1; 0 1")
        self.assert_crossed(FOUR, "n from 0", "n from 0", "4")
        self.assert_crossed(FOUR, "n from 0", A, "2 1 1")
        self.assert_crossed(FOUR, "any r c is x / every r c is y", B, "1 1; 1 1")

    def test_no_records(self):
        self.assert_crossed((), A, N, "0 0 0; 0 0 0; 0 0 0")
        self.assert_crossed((), "a is x", "a is x / a is x", "0 0", ())
        self.assert_crossed((), "c is x / c is x", "d has x", "0; 0", None, "r")

    def test_forty(self):
        self.assert_crossed(FOUR * 10, A, N, "10 0 10; 0 10 0; 0 10 0")
        self.assert_crossed(FOUR[2:3] * 40, A, B, "40 0; 0 0; 0 0")
        self.assert_crossed(FOUR[2:3] * 40, "c is x / c is y", "a is x / a is y", "80 0; 80 0", None, "r")

    def test_one_to_eight_lines(self):
        eight = " / ".join(["a is x", "a is y", "a is z", *["( a is x and a is y )"] * 5])
        self.assert_crossed(FOUR, eight, eight, "2 0 0 0 0 0 0 0; 0 1 0 0 0 0 0 0; 0 0 1 0 0 0 0 0" + "; 0 0 0 0 0 0 0 0" * 5)
        self.assert_crossed(FOUR, eight, "n from 0", "2; 1; 1; 0; 0; 0; 0; 0")

    def test_weights(self):
        weights = ((1, 2), (3, 1), (0, 1), (2, 3))
        told = self.assert_crossed(FOUR, A, B, "0 1/2; 3 0; 0 2/3", weights)
        self.assertTrue(alike(told[1:], (((1, 2), (3, 1), (2, 3)), ((3, 1), (7, 6)), (25, 6))))
        self.assert_crossed(FOUR, "n from 0", "n from 0", "25/6", weights)
        self.assert_crossed(FOUR, A, B, "0 0; 0 0; 0 0", ((0, 1),) * 4)
        self.assert_crossed(FOUR[:1] * 3, "n to 0", "a is x", "1", ((1, 2), (1, 3), (1, 6)))
        great = ((TOP, 7), (1, TOP), (10 ** 900, 3), (1, 10 ** 900))
        self.assertTrue(alike(cross(STEPS, FOUR, lines("n from 0"), lines("n from 0"), great)[3], pair_of(sum(Fraction(*weight) for weight in great))))

    def test_over_a_round(self):
        self.assert_crossed(FOUR, "c is x / c is y", A, "2 0 2; 2 1 0", None, "r")
        self.assert_crossed(FOUR, "d has x / not d has x", "d has y / not d has y", "1 1; 1 4", None, "r")
        self.assert_crossed(FOUR, "c is x / c is y", A, "1 0 4/3; 1 3 0", ((7, 1), (3, 1), (1, 2), (2, 3)), "r")
        self.assert_crossed(FOUR[:1], "c is x", "c is y", "0", None, "r")
        self.assert_crossed(FOUR[:1] * 40, "a is y", "a is z", "0", ((1, 3),) * 40, "r")
        for many in range(5):
            folk = records(" ".join(["a=x b=+", f"n={many}", *[f"c{k}=y" for k in range(1, many + 1)]]))
            self.assert_crossed(folk, "c is x / c is y", "n from 0", f"0; {many}", None, "r")

    def test_by_what_is_taken(self):
        # b isn't asked where a is x, c not where p is left: what is told there isn't taken, and no piece holds by it.
        found = records("n=2 a=x b=x c1=x c2=x", "n=2 a=y b=x c1=x c2=y", "n=4 a=y b=y c1=x", "n=0 a=x")
        self.assert_crossed(found, "b is x / b is y / not ( b is x or b is y )", "a is x / a is y", "0 1; 0 1; 2 0", steps=SKIPPED)
        self.assert_crossed(found, "any r c is x / not any r c is x", "n from 2 / not n from 2", "1 0; 2 1", steps=SKIPPED)
        # There are as many folk as were taken, though the round isn't come to.
        self.assert_crossed(found, "c is x / c is y / not ( c is x or c is y )", "a is x / a is y", "0 1; 0 1; 2 4", None, "r", SKIPPED)
        self.assert_crossed(found, "every r not c is x / any r c is x", "n from 0", "3; 1", steps=SKIPPED)
        more = ({**found[0], ("z", 0): "x", 7: [], ("c", 3): "y", ("a", 1): "y"}, *found[1:])
        self.assertTrue(alike(cross(SKIPPED, more, lines("a is x / a is y"), lines("n from 0")), with_sums(cells_in("2; 2"))))

    def test_folk_of_a_question_that_is_not_asked(self):
        steps = form("ask a pick x y / if a is x / ask n count 1 4 / end / each r n / ask c pick x / end")
        self.assert_crossed(records("a=y n=3 c1=x", "a=x n=2 c1=x c2=x"), "c is x", "a is x / a is y", "2 0", None, "r", steps)
        self.assert_crossed(records("a=y n=3 c1=x", "a=x n=2 c1=x c2=x"), "any r c is x / every r not c is x", "a is x / a is y", "1 0; 0 1", None, None, steps)

    def test_no_fit(self):
        self.refuse_fit(1, FOUR, "a is x / a is z", N)
        self.refuse_fit(1, FOUR, N, "a is x / a is z")
        self.refuse_fit(0, FOUR, A, "n from 1")
        self.refuse_fit(3, FOUR, "a is x / a is y", N)
        self.refuse_fit(2, FOUR, A, "n to 2")
        self.refuse_fit(0, FOUR, "n from 0 / a is x", N)
        self.refuse_fit(2, FOUR, "n from 0 / n from 3", A)
        self.refuse_fit(0, FOUR, "a is x / a is x", "a is x / a is x")
        # The first record that doesn't fit, be it the rows or the columns.
        self.refuse_fit(1, FOUR, "a is x / a is y", "n to 0 / n from 2")
        self.refuse_fit(1, FOUR, "n to 0 / n from 2", "a is x / a is y")
        # Whatever it counts for.
        self.refuse_fit(1, FOUR, "a is x / a is z", N, ((0, 1),) * 4)

    def test_no_fit_over_a_round(self):
        self.refuse_fit(1, FOUR, "c is x", A, None, "r")
        self.refuse_fit(2, FOUR, "c is y", A, None, "r")
        self.refuse_fit(2, FOUR, A, "not d has y / ( c is x and not d has x )", None, "r")
        self.refuse_fit(3, FOUR, "c is x / c is y", "a is x / a is y", None, "r")
        self.refuse_fit(1, FOUR[:2], "c is x / c is y", "a is x", ((0, 1), (0, 1)), "r")
        self.refuse_fit(2, FOUR, "not d has x", "n from 0", None, "r")

    def test_refusals_in_their_order(self):
        good, gone, wrong = lines(A), lines("z is x"), lines("a is x")
        for thing in [*THINGS, *NO_FORMS]:
            if not alike(thing, ()):
                for found in (FOUR, None):
                    refuse_form(self, -1, cross, thing, found, good, good)
                    refuse_form(self, -1, cross, thing, found, gone, None, None, "z")
        short, hard = records("a=x"), form("ask a pick x y / hard a is x")
        for found, number in ((None, -1), ([], -1), (FOUR * 11, -1), ({}, -1), (short, 0), (FOUR + short, 4), (FOUR[:2] + short + FOUR + short, 2), ((None,), 0), (FOUR + ([],), 4), (FOUR[:1] + (FOUR,), 1)):
            for told in ((good, good), (gone, good), (None, None), (good, good, 7), (good, good, None, "z"), (gone, None, 7, "z"), (wrong, wrong)):
                self.assertEqual(refuse(self, NoRecord, cross, STEPS, found, *told).number, number)
        self.assertEqual(refuse(self, NoRecord, cross, hard, records("a=x", "a=y"), lines("a is x"), lines("a is x")).number, 1)
        for over in [*NO_ROUNDS, *THINGS]:
            if over is not None:
                for told in ((good, good, None), (gone, good, None), (good, None, 7), (good, good, 7), (wrong, wrong, ())):
                    refuse(self, NoRound, cross, STEPS, FOUR, *told, over)
        for thing in (gone, None, (), [], list(good), good * 3, lines("c is x"), (None,), "a is x", good[0]):
            for weights in (None, 7, ()):
                refuse(self, NoLines, cross, STEPS, FOUR, thing, good, weights)
                refuse(self, NoLines, cross, STEPS, FOUR, good, thing, weights)
                refuse(self, NoLines, cross, STEPS, FOUR, wrong, thing, weights)
                refuse(self, NoLines, cross, STEPS, (), thing, thing, weights)
        refuse(self, NoLines, cross, STEPS, FOUR, lines("any r c is x"), good, None, "r")
        refuse(self, NoLines, cross, STEPS, FOUR, good, lines("b has x"), None, "r")

    def test_no_weights(self):
        good, wrong = lines(A), lines("a is x")
        half = (1, 2)
        many = [
            (), (half,) * 3, (half,) * 5, [half] * 4, half, 7, True, "", {}, (half, half, half, (-1, 2)), ((-1, 1), half, half, half), (half, (2, 4), half, half), (half, (1, 0), half, half), (half, (0, 2), half, half),
            (half, 1, half, half), (1, 1, 1, 1), (half, None, half, half), (half, [1, 2], half, half), (half, (True, 1), half, half), (half, (1, True), half, half), (half, "1/2", half, half), (half, (1, 2, 1), half, half),
            {0: half}, (half, (1, -2), half, half),
        ]
        for weights in [*many, *THINGS]:
            if weights is not None:
                refuse(self, NoWeights, cross, STEPS, FOUR, good, good, weights)
                # Ahead of NoFit.
                refuse(self, NoWeights, cross, STEPS, FOUR, wrong, good, weights)
                refuse(self, NoWeights, cross, STEPS, FOUR, wrong, wrong, weights, "r")
                if not alike(weights, ()):
                    refuse(self, NoWeights, cross, STEPS, (), good, good, weights)

    def test_told_is_the_askers_own_and_may_be_handed_on(self):
        found = [dict(record) for record in FOUR]
        told = cross(STEPS, tuple(found), lines(A), lines(B))
        kept = copy.deepcopy(told)
        found[0].clear()
        self.assertTrue(alike(told, kept))
        self.assertEqual(added(told, told)[3], (8, 1))
        self.assertTrue(alike(cross(STEPS, FOUR, lines(A), lines(B), told[0][0] + told[0][1]), cross(STEPS, FOUR, lines(A), lines(B), ints(1, 1, 1, 0))))

    def test_at_random(self):
        chance = random.Random(109)
        seen = {"fit": 0, "no fit": 0, "over": 0}
        while min(seen.values()) < 120:
            steps = random_form(chance, chance.randrange(4, 14))
            keys = made_rows.keys_asked(steps)
            found = []
            for _ in range(40):
                record = random_answers(chance, keys, 1)
                if made_rows.run(steps, record, (), True)[2] == ("end",):
                    found.append(record)
            found = tuple(found[:chance.randrange(1, 9)])
            over = chance.choice([None, *rounds_in(steps)] if chance.random() < 0.8 else rounds_in(steps) or [None])
            rows, columns = self.some_lines(chance, steps, over), self.some_lines(chance, steps, over)
            if not found or rows is None or columns is None:
                continue
            weights = None if chance.random() < 0.3 else tuple(pair_of(Fraction(chance.randrange(5), chance.randrange(1, 5))) for _ in found)
            wanted = self.slow_cross(steps, found, rows, columns, weights, over)
            if isinstance(wanted, int):
                self.assertEqual(refuse(self, NoFit, cross, steps, found, rows, columns, weights, over).number, wanted)
                seen["no fit"] += 1
            else:
                told = cross(steps, found, rows, columns, weights, over)
                self.assertTrue(alike(told, wanted), (told, wanted))
                seen["fit"] += 1
                seen["over"] += over is not None and told[3] != (0, 1)
                at = chance.randrange(len(found) + 1)
                parts = [cross(steps, part, rows, columns, worths, over) for part, worths in (
                    (found[:at], None if weights is None else weights[:at]), (found[at:], None if weights is None else weights[at:]),
                )]
                self.assertTrue(alike(added(*parts), told))

    def some_lines(self, chance, steps, over):
        """Two or three lines, most often such that just one of them holds; None where there is nothing to ask for."""
        made = made_rows.Rows(steps)
        pieces = []
        for name, kind in made.kinds.items():
            wanted = chance.choice(kind[1]) if kind[0] != "count" else chance.randrange(0, 5)
            pieces.append(({"pick": "is", "some": "has", "count": "from"}[kind[0]], name, wanted))
        pieces = [piece for piece in pieces if are_lines(steps, (piece,), over)]
        if over is None:
            pieces += [(word, home, piece) for home in rounds_in(steps) for word in ("any", "every") for piece in pieces if made.homes[piece[1]] in ("", home)]
        if not pieces:
            return None
        one, two = chance.choice(pieces), chance.choice(pieces)
        found = chance.choice(((one, ("not", one)), (("and", (one, two)), ("and", (one, ("not", two))), ("not", one)), (one, two), (("or", (one, two)), ("not", ("or", (one, two))))))
        return found if are_lines(steps, found, over) else (one,)

    def slow_cross(self, steps, found, rows, columns, weights, over):
        """What is told, or the number of the first that doesn't fit."""
        made = made_rows.Rows(steps)
        cells = [[Fraction(0) for _ in columns] for _ in rows]
        for number, record in enumerate(found):
            taken = {key: record[key] for key in made_rows.run(steps, record, (), True)[0]}
            persons = [0] if over is None else range(1, taken.get((made.rounds[over], 0), 0) + 1)
            for person in persons:
                fits = [[at for at, line in enumerate(side) if made_rows.says(made.keyed(line, person), taken)] for side in (rows, columns)]
                if [len(side) for side in fits] != [1, 1]:
                    return number
                cells[fits[0][0]][fits[1][0]] += 1 if weights is None else Fraction(*weights[number])
        return with_sums(tuple(tuple(pair_of(cell) for cell in row) for row in cells))


TABLE = with_sums(cells_in("1/2 3 0; 7 0 2/3"))
OTHER = with_sums(cells_in("1/2 1/4 9; 0 1/5 1/3"))


class TestAdded(unittest.TestCase):
    def assert_added(self, one, other, whole):
        for first, second in ((one, other), (other, one)):
            kept = copy.deepcopy((first, second))
            found = added(first, second)
            self.assertTrue(alike(found, whole), found)
            self.assertTrue(alike(kept, (first, second)))

    def test_part_by_part(self):
        self.assert_added(TABLE, OTHER, with_sums(cells_in("1 13/4 9; 7 1/5 1")))
        self.assert_added(TABLE, TABLE, with_sums(cells_in("1 6 0; 14 0 4/3")))
        zero = with_sums(cells_in("0 0 0; 0 0 0"))
        self.assert_added(TABLE, zero, TABLE)
        self.assert_added(with_sums(cells_in("1/3")), with_sums(cells_in("1/6")), with_sums(cells_in("1/2")))

    def test_whatever_they_sum_to(self):
        one = (cells_in("1/2 3"), ((-9, 1),), ((0, 1), (5, 7)), (1, 7))
        other = (cells_in("-1/2 1"), ((1, 2),), ((1, 3), (-5, 7)), (TOP, 7))
        self.assert_added(one, other, (cells_in("0 4"), ((-17, 2),), ((1, 3), (0, 1)), (TOP + 1, 7)))

    def test_sizes(self):
        tables = {(rows, columns): with_sums(tuple(((rows, 7) if rows % 7 else (1, 1),) * columns for _ in range(rows))) for rows in range(1, 9) for columns in range(1, 9)}
        for size, table in tables.items():
            self.assertEqual(added(table, table)[3][0] * table[3][1], 2 * table[3][0] * added(table, table)[3][1])
            for other in ((1, 1), (8, 8), (2, 3), (3, 2), size[::-1]):
                if other != size:
                    refuse(self, NoTable, added, table, tables[other])
                    refuse(self, NoTable, added, tables[other], table)
        nine = (ints(*[1] * 9),)
        for cells in (nine, tuple(zip(*nine))):
            refuse(self, NoTable, added, with_sums(cells), with_sums(cells))
        for empty in (((), (), (), (0, 1)), (((),), ((0, 1),), (), (0, 1)), ((), (), ((0, 1),), (0, 1))):
            refuse(self, NoTable, added, empty, empty)

    def test_no_table(self):
        cells, by_rows, by_columns, whole = TABLE
        ragged = (cells[0], cells[1][:2])
        wrong = [
            (), cells, TABLE[:3], (*TABLE, whole), list(TABLE), (list(cells), *TABLE[1:]), ((list(cells[0]), cells[1]), *TABLE[1:]), (ragged, *TABLE[1:]), (ragged[::-1], *TABLE[1:]), (cells[:1], *TABLE[1:]),
            (cells + cells[:1], *TABLE[1:]), (cells, by_rows[:1], by_columns, whole), (cells, by_rows + by_rows[:1], by_columns, whole), (cells, by_columns, by_rows, whole), (cells, list(by_rows), by_columns, whole),
            (cells, by_rows, by_columns[:2], whole), (cells, by_rows, by_columns * 2, whole), (cells, by_rows, list(by_columns), whole), (cells, by_rows, by_columns, whole[0]), (cells, by_rows, by_columns, None),
            (cells, by_rows, by_columns, list(whole)), (cells, by_rows, by_columns, (whole,)), (tuple(zip(*cells)), by_rows, by_columns, whole), (cells, by_rows, by_columns, (2, 4)), (cells, by_rows, by_columns, (1, 0)),
            (cells, by_rows, by_columns, (True, 1)), (cells, ((1, 1), (2, 2)), by_columns, whole), (cells, (1, 1), by_columns, whole), (cells, by_rows, ((1, 1), (1, 1), (1, -1)), whole), {0: cells}, None, "", 7,
            (((*cells[0][:2], (0, 2)), cells[1]), *TABLE[1:]), (((*cells[0][:2], 1), cells[1]), *TABLE[1:]), (((*cells[0][:2], (1, True)), cells[1]), *TABLE[1:]), ((cells[0], None), *TABLE[1:]), (None, *TABLE[1:]),
            (cells, None, by_columns, whole), (cells, by_rows, None, whole), (cells, {}, by_columns, whole),
        ]
        for thing in [*wrong, *THINGS]:
            refuse(self, NoTable, added, thing, TABLE)
            refuse(self, NoTable, added, TABLE, thing)
            refuse(self, NoTable, added, thing, thing)

    def test_bent_at_random(self):
        chance = random.Random(110)
        seen = {True: 0, False: 0}
        for _ in range(4000):
            thing = bent(chance, TABLE)
            if self.is_like(thing):
                self.assertEqual([len(part) for part in added(TABLE, thing)], [2, 2, 3, 2])
                seen[True] += 1
            else:
                refuse(self, NoTable, added, TABLE, thing)
                refuse(self, NoTable, added, thing, TABLE)
                seen[False] += 1
        self.assertGreater(min(seen.values()), 100)

    def is_like(self, thing):
        """Whether a thing is a table of the size of TABLE, by how it is written."""
        if type(thing) is not tuple or len(thing) != 4 or not all(type(part) is tuple for part in thing[:3]):
            return False
        cells, by_rows, by_columns, whole = thing
        if len(cells) != 2 or not all(type(row) is tuple and len(row) == 3 for row in cells):
            return False
        return len(by_rows) == 2 and len(by_columns) == 3 and all(is_fraction(part) for part in (*cells[0], *cells[1], *by_rows, *by_columns, whole))
