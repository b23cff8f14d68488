import copy
import itertools
import random
import unittest

from askround.asking.classes import width_of
from askround.asking.made import made
from askround.asking.states import behind, first_state, is_shut, is_table, live_at, table_of
from askround.errors import NoKey, TooWide
from askround.forms.trees import keys_of
from tests.bends import bent
from tests.chance import random_form
from tests.oracles import Oracle
from tests.support import THINGS, alike, answer_truth, refuse, refuse_form
from tests.test_classes import WIDE, WIDER, joint, wide_form
from tests.test_made import key_of
from tests.trees import form

# 0 ask a, 1 unless, 2 ask b, 3 ask c, 4 hard, 5 ask d, 6 soft, 7 ask e, 8 end
STEPS = form("ask a pick x y z / if a is x / ask b pick x y / end / ask c count 0 9 / hard not c from 8 / ask d pick x / soft ( b is x or c from 3 ) / ask e pick x y")
TABLE = ((0, ()), (2, ()), (3, (-1,)), (3, (0,)), (3, (1,)), (5, (-1, 0)), (5, (-1, 1)), (5, (0, 0)), (5, (0, 1)), (5, (1, 0)), (5, (1, 1)), (7, ()))


def keys(text):
    return tuple(key_of(name) for name in text.split())


def small_form(chance, most=14):
    """A form by chance, not wide."""
    while True:
        steps = random_form(chance, chance.randrange(4, most))
        if keys_of(steps) and width_of(steps) <= 200:
            return steps


class TestLive(unittest.TestCase):
    def assert_live(self, text, **lives):
        steps = form(text)
        asked = {row[1]: at for at, row in enumerate(made(steps)) if row[0] == "ask"}
        self.assertEqual(sorted(lives), sorted(name + str(person or "") for name, person in asked))
        for name, live in lives.items():
            self.assertTrue(alike(live_at(steps, asked[key_of(name)]), keys(live)), name)

    def test_asked_ahead_and_named_from_there_on(self):
        self.assert_live("ask a pick x / ask b pick x", a="", b="")
        self.assert_live("ask a pick x / ask b pick x / hard a is x / ask c pick x", a="", b="a", c="")
        self.assert_live("ask b pick x / ask a pick x / ask c pick x / hard ( a is x or b is x ) / ask d pick x / soft b is x / ask e pick x", b="", a="b", c="a b", d="b", e="")
        self.assert_live("ask a pick x / if a is x / ask b pick x / end / ask c pick x", a="", b="", c="")
        self.assert_live("ask a pick x / part p / ask b pick x / leave p a is x / ask c pick x / leave p b is x / end / ask d pick x", a="", b="a", c="b", d="")

    def test_rising(self):
        self.assert_live("ask z pick x / ask b pick x / ask aa pick x / ask y pick x / soft ( z is x and b is x and aa is x )", z="", b="z", aa="b z", y="aa b z")

    def test_rounds(self):
        self.assert_live("ask n count 0 2 / ask g pick x / each r n / ask a pick x / end / ask b pick x", n="", g="n", a1="n", a2="", b="")
        self.assert_live("ask n count 0 2 / each r n / ask a pick x / end / ask b pick x / soft any r a is x", n="", a1="n", a2="a1 n", b="a1 a2 n")
        self.assert_live("ask g pick x / ask n count 0 2 / each r n / ask a pick x / soft g is x / end / ask b pick x", g="", n="g", a1="g n", a2="g", b="")
        self.assert_live("ask n count 0 0 / each r n / ask a pick x / end / ask b pick x / soft any r a is x", n="", b="")

    def test_of_states_that_are_never_come_to(self):
        self.assert_live("ask a pick x / if ( a is x and not a is x ) / ask b pick x / end / ask c pick x / soft b is x", a="", b="", c="b")

    def test_no_ask_row(self):
        asks = [0, 2, 3, 5, 7]
        for at in asks:
            live_at(STEPS, at)
        for thing in [1, 4, 6, 8, 9, 100, -1, -8, -9, True, False, None, "0", "a", (0,), ("a", 0), [0], {}, *THINGS]:
            if not any(alike(thing, at) for at in asks):
                refuse(self, NoKey, live_at, STEPS, thing)
                refuse(self, NoKey, live_at, (), thing)

    def test_at_random(self):
        chance = random.Random(51)
        for _ in range(200):
            steps = small_form(chance, 24)
            oracle = Oracle(steps)
            for at in range(len(oracle.rows)):
                if at in oracle.lives:
                    self.assertTrue(alike(live_at(steps, at), tuple(oracle.lives[at])))
                else:
                    refuse(self, NoKey, live_at, steps, at)


class TestBehind(unittest.TestCase):
    def assert_behind(self, steps, state, *found):
        """What comes behind a state, for each class of its key."""
        kept = copy.deepcopy((steps, state))
        for number, wanted in enumerate(found):
            self.assertTrue(alike(behind(steps, state, number), wanted), (state, number, behind(steps, state, number)))
        self.assertTrue(alike(kept, (steps, state)))

    def test_first(self):
        self.assertTrue(alike(first_state(STEPS), (0, ())))
        self.assertTrue(alike(first_state(form("part p / ask a pick x / end")), (0, ())))
        for steps in ((), form("part p / part q / end / end")):
            self.assertIsNone(first_state(steps))
        self.assertTrue(alike(first_state(form("part p / end / ask a pick x y / if a is x / end / ask b pick x / soft a is x")), (0, ())))

    def test_ifs_and_hards(self):
        self.assert_behind(STEPS, (0, ()), (2, ()), (3, (-1,)))
        self.assert_behind(STEPS, (2, ()), (3, (0,)), (3, (1,)))
        self.assert_behind(STEPS, (3, (-1,)), (5, (-1, 0)), (5, (-1, 1)), None)
        self.assert_behind(STEPS, (3, (1,)), (5, (1, 0)), (5, (1, 1)), None)

    def test_softs_are_let_and_ends(self):
        for marks in itertools.product((-1, 0, 1), (-1, 0, 1, 2)):
            self.assert_behind(STEPS, (5, marks), (7, ()))
        self.assert_behind(STEPS, (7, ()), None)

    def test_rounds(self):
        steps = form("ask n count 0 2 / each r n / ask a pick x y / end / ask b pick x / hard every r a is x / ask c pick x")
        # 0 n, 1 unless, 2 a1, 3 unless, 4 a2, 5 b, 6 hard, 7 c
        self.assert_behind(steps, (0, ()), (5, (-1, -1, 0)), (2, (1,)), (2, (2,)))
        self.assert_behind(steps, (2, (1,)), (5, (0, -1, 1)), (5, (1, -1, 1)))
        self.assert_behind(steps, (2, (2,)), (4, (0, 2)), (4, (1, 2)))
        self.assert_behind(steps, (5, (0, -1, 1)), (7, ()))
        self.assert_behind(steps, (5, (1, -1, 1)), None)
        self.assert_behind(steps, (5, (1, 1, 0)), (7, ()))

    def test_whatever_the_marks(self):
        steps = form("ask n count 0 2 / each r n / ask a pick x y / end / ask b pick x / hard every r a is x / ask c pick x")
        # None was taken, though the round's folk are; folk that no answer counts.
        self.assert_behind(steps, (5, (-1, -1, 2)), None)
        self.assert_behind(steps, (5, (-1, -1, -1)), (7, ()))
        self.assert_behind(steps, (5, (1, 1, -1)), (7, ()))
        self.assert_behind(steps, (5, (-1, 0, 1)), None)
        self.assert_behind(steps, (2, (0,)), (5, (0, -1, 0)), (5, (1, -1, 0)))
        self.assert_behind(steps, (2, (-1,)), (5, (0, -1, -1)), (5, (1, -1, -1)))
        self.assert_behind(steps, (4, (-1, 0)), (5, (-1, 0, 0)), (5, (-1, 1, 0)))

    def test_parts_that_are_left(self):
        steps = form("ask n count 0 1 / part p / ask a pick x y / leave p ( a is x and n from 1 ) / ask b pick x / end / ask c pick x / hard a is x / ask d pick x")
        # 0 n, 1 a, 2 when, 3 b, 4 c, 5 hard, 6 d
        self.assert_behind(steps, (0, ()), (1, (0,)), (1, (1,)))
        self.assert_behind(steps, (1, (1,)), (4, (0,)), (3, (1,)))
        self.assert_behind(steps, (1, (-1,)), (3, (0,)), (3, (1,)))
        self.assert_behind(steps, (4, (-1,)), None)
        self.assert_behind(steps, (4, (0,)), (6, ()))

    def test_at_random(self):
        chance = random.Random(52)
        seen = {"came": 0, "others": 0, "none": 0}
        for _ in range(120):
            steps = small_form(chance)
            oracle = Oracle(steps)
            self.assertTrue(alike(first_state(steps), oracle.first()[2]))
            came = oracle.reached()
            self.assertTrue(alike(table_of(steps), came), steps)
            states = [(at, marks) for at, live in oracle.lives.items() for marks in itertools.islice(itertools.product(*[range(-1, len(oracle.sorts[key])) for key in live]), 200)]
            for state in [*chance.sample(states, min(12, len(states))), *chance.sample(came, min(8, len(came)))]:
                for number in range(len(oracle.sorts[oracle.rows[state[0]][1]])):
                    found = behind(steps, state, number)
                    self.assertTrue(alike(found, oracle.behind(state, number)[2]), (steps, state, number))
                    seen["came" if state in came else "others"] += 1
                    seen["none"] += found is None
        self.assertGreater(min(seen.values()), 300, seen)


class TestTables(unittest.TestCase):
    def assert_table(self, steps, *things):
        for thing in things:
            self.assertTrue(answer_truth(self, is_table, steps, thing), thing)

    def assert_none(self, steps, *things):
        for thing in things:
            self.assertFalse(answer_truth(self, is_table, steps, thing), thing)
            for key in keys_of(steps):
                self.assertFalse(answer_truth(self, is_shut, steps, key, thing), thing)

    def test_the_least(self):
        self.assertTrue(alike(table_of(STEPS), TABLE), table_of(STEPS))
        self.assert_table(STEPS, TABLE, table_of(STEPS))
        self.assertTrue(alike(table_of(form("ask a pick x y / ask b pick x y")), ((0, ()), (1, ()))))
        rounds = ((0, ()), (2, (1,)), (2, (2,)), (6, (0, 2)), (6, (1, 2)), (9, (-1, -1, 0)), (9, (0, -1, 1)), (9, (0, 0, 2)), (9, (0, 1, 2)), (9, (1, -1, 1)), (9, (1, 0, 2)), (9, (1, 1, 2)))
        steps = form(
            "ask n count 0 2 / each r n / ask a pick x y z / soft a is x / hard not a is z / end / ask b pick x / soft every r a is x / hard any r not a is x / ask c pick x"
        )
        self.assertTrue(alike(table_of(steps), (*rounds, (12, ()))), table_of(steps))

    def test_of_a_form_that_asks_nothing(self):
        for steps in ((), form("part p / end")):
            self.assertTrue(alike(table_of(steps), ()))
            self.assert_table(steps, ())
            self.assert_none(steps, ((0, ()),), [], None, {}, "", 0, False)

    def test_without_the_first(self):
        self.assert_none(STEPS, (), TABLE[1:], TABLE[-1:], ((2, ()),))

    def test_one_out(self):
        for at in range(len(TABLE)):
            self.assert_none(STEPS, TABLE[:at] + TABLE[at + 1:])

    def test_more_states(self):
        for more in ((5, (-1, -1)), (5, (0, -1)), (5, (1, 2)), (5, (-1, 2))):
            self.assert_table(STEPS, tuple(sorted([*TABLE, more])))
        self.assert_table(STEPS, tuple(sorted([*TABLE, *[(5, marks) for marks in itertools.product((-1, 0, 1), (-1, 2))]][:16] + [(5, (1, 2)), (5, (1, -1))])))
        open_ones = form("ask a pick x y / hard a is x / ask b pick x y / ask c pick x / soft a is x / soft b is x")
        # 0 a, 1 hard, 2 b, 3 c
        least = ((0, ()), (2, (0,)), (3, (0, 0)), (3, (0, 1)))
        self.assert_table(open_ones, least, least[:2] + ((3, (-1, -1)),) + least[2:])
        self.assert_table(open_ones, least[:1] + ((2, (-1,)), (2, (0,)), (3, (-1, 0)), (3, (-1, 1)), (3, (0, 0)), (3, (0, 1))))
        self.assert_none(open_ones, least[:1] + ((2, (-1,)), (2, (0,)), (3, (0, 0)), (3, (0, 1))), least[:2] + ((2, (1,)),) + least[2:])
        self.assert_none(open_ones, least[:1] + ((2, (-1,)), (2, (0,)), (3, (-1, 0)), (3, (0, 0)), (3, (0, 1))))

    def test_out_of_order_and_twice(self):
        self.assert_none(STEPS, TABLE[::-1], TABLE + TABLE, TABLE + TABLE[-1:], TABLE[:1] + TABLE)
        for at in range(len(TABLE) - 1):
            self.assert_none(STEPS, TABLE[:at] + (TABLE[at + 1], TABLE[at]) + TABLE[at + 2:], TABLE[:at] + TABLE[at:at + 1] + TABLE[at:])

    def test_marks(self):
        def with_marks(*marks):
            return TABLE[:5] + tuple(sorted({*TABLE[5:-1], (5, marks)}, key=repr)) + TABLE[-1:]
        for marks in ((2, 0), (0, 3), (-2, 0), (0, -2), (), (0,), (0, 0, 0), ("0", 0), (None, 0), ((0,), 0), (10 ** 40 - 1, 0), ("x", 0)):
            self.assert_none(STEPS, with_marks(*marks), ((5, marks),), tuple(sorted([*TABLE], key=repr)) + ((5, marks),))
            self.assert_none(STEPS, TABLE[:-1] + ((5, marks), TABLE[-1]), TABLE[:3] + ((5, marks),) + TABLE[3:])

    def test_truths_in_the_place_of_numbers(self):
        for at, (row, marks) in enumerate(TABLE):
            ways = [(bool(row), marks)] if row in (0, 1) else []
            ways += [(row, marks[:k] + (bool(mark),) + marks[k + 1:]) for k, mark in enumerate(marks) if mark in (0, 1)]
            for way in ways:
                self.assertEqual(way, TABLE[at])
                self.assert_none(STEPS, TABLE[:at] + (way,) + TABLE[at + 1:])

    def test_rows_and_shapes(self):
        self.assert_none(STEPS, list(TABLE), tuple(list(state) for state in TABLE), tuple((row, list(marks)) for row, marks in TABLE), {state: True for state in TABLE})
        for more in ((8, ()), (9, ()), (100, ()), (10 ** 40 - 1, ()), (7, (), ()), (7,), 7, (), "ab", None, ("7", ()), (None, ()), (7, None), (7, [])):
            self.assert_none(STEPS, (*TABLE, more), (*TABLE[:-1], more))
        for more in ((-1, ()), (-9, ()), -1, (), None, "", (-2, ())):
            self.assert_none(STEPS, (more, *TABLE))
        for at, more in ((1, (1, ())), (5, (4, ())), (11, (6, ())), (5, (4, (0, 0)))):
            self.assert_none(STEPS, TABLE[:at] + (more,) + TABLE[at:])

    def test_shut(self):
        steps = form("ask a pick x y / if ( a is x and not a is x ) / ask b pick x / end / ask c pick x / soft b is x / soft a is x")
        # 0 a, 1 unless, 2 b, 3 c
        least = ((0, ()), (3, (0, -1)), (3, (1, -1)))
        more = tuple(sorted([*least, (3, (1, 0)), (3, (-1, -1))]))
        with_b = tuple(sorted([*least, (2, (-1,)), (3, (-1, 0))]))
        for key, thing, shut in ((("b", 0), least, True), (("b", 0), more, True), (("b", 0), with_b, False), (("a", 0), least, False), (("c", 0), least, False), (("b", 0), least[:2], False)):
            self.assertIs(answer_truth(self, is_shut, steps, key, thing), shut, (key, thing))
        self.assert_table(steps, least, more, with_b)

    def test_of_anything_a_truth_is_told(self):
        for thing in THINGS:
            self.assert_none(STEPS, thing)
            self.assertIs(answer_truth(self, is_table, (), thing), alike(thing, ()))

    def test_bent_at_random(self):
        chance = random.Random(53)
        seen = {True: 0, False: 0}
        for _ in range(60):
            steps = small_form(chance)
            oracle = Oracle(steps)
            table = table_of(steps)
            asked = {oracle.rows[state[0]][1] for state in table}
            for key in oracle.kinds:
                self.assertIs(is_shut(steps, key, table), key not in asked)
            for _ in range(40):
                at, live = chance.choice(list(oracle.lives.items()))
                more = (at, tuple(chance.randrange(-1, len(oracle.sorts[key])) for key in live))
                for thing in (bent(chance, table), bent(chance, bent(chance, table)), tuple(sorted({*table, more}))):
                    wanted = oracle.is_table(thing)
                    self.assertIs(answer_truth(self, is_table, steps, thing), wanted, (steps, thing))
                    key = chance.choice(list(oracle.kinds))
                    self.assertIs(answer_truth(self, is_shut, steps, key, thing), oracle.is_shut(key, thing), (steps, thing))
                    seen[wanted] += 1
        self.assertGreater(min(seen.values()), 500, seen)


class TestRefusals(unittest.TestCase):
    def test_no_form(self):
        for thing in [*THINGS, form("hard a is x"), list(STEPS)]:
            if not alike(thing, ()):
                refuse_form(self, -1, live_at, thing, None)
                refuse_form(self, -1, first_state, thing)
                refuse_form(self, -1, behind, thing, (0, ()), 0)
                refuse_form(self, -1, table_of, thing)
                refuse_form(self, -1, is_table, thing, None)
                refuse_form(self, -1, is_shut, thing, None, None)

    def test_too_wide(self):
        narrow, wider = wide_form(WIDE), wide_form(WIDER)
        for at in (0, 1, -1, None, []):
            refuse(self, TooWide, live_at, wider, at)
        refuse(self, TooWide, first_state, wider)
        refuse(self, TooWide, behind, wider, (0, ()), 0)
        refuse(self, TooWide, table_of, wider)
        for thing in ((), ((0, ()),), None):
            refuse(self, TooWide, is_table, wider, thing)
            for key in (("a", 0), ("z", 0), None):
                refuse(self, TooWide, is_shut, wider, key, thing)
        self.assertEqual(live_at(narrow, 2), (("a", 0), ("b", 0)))
        self.assertEqual(first_state(narrow), (0, ()))
        self.assertEqual(behind(narrow, (1, (4,)), 9), (2, (4, 9)))
        table = table_of(narrow)
        self.assertEqual(len(table), 1 + 10 + 100)
        self.assertIs(is_table(narrow, table), True)
        self.assertIs(is_shut(narrow, ("c", 0), table), False)

    def test_no_key(self):
        for key in [("z", 0), ("a", 1), ("a", False), ("a",), "a", ["a", 0], *THINGS]:
            if not alike(key, ("a", 0)):
                for thing in (TABLE, (), None):
                    refuse(self, NoKey, is_shut, STEPS, key, thing)


class TestWide(unittest.TestCase):
    def test_wide_forms_in_few_seconds(self):
        singles = [f"z{name}" for name in "abcdefghijklmnopqrstuvwxyz"]
        steps = form("ask n count 0 4 / " + " / ".join(f"ask {name} pick x y" for name in "abcdefgh") + " / each r n / " + " / ".join(f"ask {name} pick x" for name in singles)
                     + " / end / hard any r " + joint([f"{name} is x" for name in singles]) + " / soft " + joint([f"{name} is x" for name in "abcdefgh"]) + " / ask y pick x")
        self.assertEqual(width_of(steps), 1280)
        table = table_of(steps)
        # Behind those who count the folk, 256 ways through so many rows; behind the hard nothing is live.
        self.assertEqual(len(table), 1 + sum(5 * 2 ** k for k in range(8)) + 256 * 26 * (4 + 3 + 2 + 1) + 1)
        self.assertIs(is_table(steps, table), True)
        self.assertIs(is_table(steps, table[:-2] + table[-1:]), False)
        self.assertIs(is_shut(steps, ("y", 0), table), False)
