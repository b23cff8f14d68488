import copy
import random
import unittest

from askround.asking.classes import class_of, classes_of, width_of
from askround.errors import NoKey, NoValue, TooWide
from askround.forms.trees import is_form
from tests import made_rows
from tests.chance import random_form
from tests.oracles import Oracle
from tests.support import THINGS, TOP, alike, refuse, refuse_form
from tests.test_kinds import values_of
from tests.test_made import key_of
from tests.trees import form

MILLION = 10 ** 6
# Counts whose bounds part them into just so many classes: 10 * 10 * 20 and 3 * 23 * 29.
WIDE = (9, 9, 19)
WIDER = (2, 22, 28)


def wide_form(cuts):
    """A form of counts, each with so many bounds, thirty in a soft."""
    asks = [f"ask {name} count 0 1000" for name in "abc"]
    pieces = [f"{name} from {k + 1}" for name, many in zip("abc", cuts) for k in range(many)]
    return form(" / ".join(asks + ["soft " + joint(pieces[at:at + 30]) for at in range(0, len(pieces), 30)]))


def joint(pieces):
    groups = ["( " + " or ".join(pieces[at:at + 6]) + " )" if len(pieces[at:at + 6]) > 1 else pieces[at] for at in range(0, len(pieces), 6)]
    return "( " + " and ".join(groups) + " )" if len(groups) > 1 else groups[0]


class TestClasses(unittest.TestCase):
    def assert_classes(self, text, name, *classes):
        steps, key = form(text), key_of(name)
        self.assertTrue(is_form(steps), text)
        kept = copy.deepcopy(steps)
        found = classes_of(steps, key)
        self.assertTrue(alike(found, classes), found)
        self.assertTrue(alike(kept, steps))
        for number, (first, _) in enumerate(classes):
            self.assertTrue(alike(class_of(steps, key, first), number))

    def test_of_a_key_that_no_condition_names(self):
        self.assert_classes("ask a pick y x", "a", ("y", 2))
        self.assert_classes("ask a some x y z", "a", ((), 8))
        self.assert_classes("ask a some u v w x y z", "a", ((), 64))
        self.assert_classes("ask a count 3 3", "a", (3, 1))
        self.assert_classes("ask a count 0 1000000", "a", (0, MILLION + 1))
        self.assert_classes("ask a pick x y / ask b pick x y / soft b is x", "a", ("x", 2))

    def test_picks(self):
        self.assert_classes("ask a pick y x z / soft a is x", "a", ("y", 2), ("x", 1))
        self.assert_classes("ask a pick y x z / soft a is y", "a", ("y", 1), ("x", 2))
        self.assert_classes("ask a pick y x z / soft ( a is x or not a is z )", "a", ("y", 1), ("x", 1), ("z", 1))
        self.assert_classes("ask a pick u v w x y z / soft a is z / soft a is w / soft a is z", "a", ("u", 4), ("w", 1), ("z", 1))
        self.assert_classes("ask a pick x / soft a is x", "a", ("x", 1))

    def test_somes(self):
        self.assert_classes("ask a some y x / soft a has y", "a", ((), 2), (("y",), 2))
        self.assert_classes("ask a some y x / soft a has x", "a", ((), 2), (("x",), 2))
        self.assert_classes("ask a some y x / soft a has x / soft a has y", "a", ((), 1), (("y",), 1), (("x",), 1), (("y", "x"), 1))
        self.assert_classes("ask a some x y z / soft ( a has z and a has x )", "a", ((), 2), (("x",), 2), (("z",), 2), (("x", "z"), 2))
        self.assert_classes("ask a some u v w x y z / soft ( a has z and a has v )", "a", ((), 16), (("v",), 16), (("z",), 16), (("v", "z"), 16))

    def test_counts(self):
        self.assert_classes("ask a count 3 9 / soft a from 5", "a", (3, 2), (5, 5))
        self.assert_classes("ask a count 3 9 / soft a to 5", "a", (3, 3), (6, 4))
        self.assert_classes("ask a count 3 9 / soft ( a from 5 and a to 5 )", "a", (3, 2), (5, 1), (6, 4))
        self.assert_classes("ask a count 3 9 / soft ( a from 5 or a to 4 )", "a", (3, 2), (5, 5))
        self.assert_classes("ask a count 0 1000000 / soft a from 1000000 / hard a to 0", "a", (0, 1), (1, MILLION - 1), (MILLION, 1))
        self.assert_classes("ask a count 0 1000000 / soft a from 999999 / hard a to 499999", "a", (0, 500000), (500000, 499999), (999999, 2))

    def test_bounds_that_meet_the_ends(self):
        for bound in ("from 0", "from 3", "from 10", "from 1000000", "to 2", "to 9", "to 10", "to 0", "to 1000000"):
            self.assert_classes(f"ask a count 3 9 / soft a {bound}", "a", (3, 7))
        self.assert_classes("ask a count 3 9 / soft a from 4", "a", (3, 1), (4, 6))
        self.assert_classes("ask a count 3 9 / soft a to 3", "a", (3, 1), (4, 6))
        self.assert_classes("ask a count 3 9 / soft a from 9", "a", (3, 6), (9, 1))
        self.assert_classes("ask a count 3 9 / soft a to 8", "a", (3, 6), (9, 1))
        self.assert_classes("ask a count 3 3 / soft a from 3 / soft a to 3", "a", (3, 1))

    def test_questions_of_rounds(self):
        self.assert_classes("ask n count 0 4 / each r n / end", "n", (0, 1), (1, 1), (2, 1), (3, 1), (4, 1))
        self.assert_classes("ask n count 2 4 / each r n / end", "n", (2, 1), (3, 1), (4, 1))
        self.assert_classes("ask n count 0 1 / each r n / end", "n", (0, 1), (1, 1))
        self.assert_classes("ask n count 1 1 / each r n / end", "n", (1, 1))
        self.assert_classes("ask n count 0 0 / each r n / ask a pick x / end / soft any r a is x", "n", (0, 1))
        self.assert_classes("ask n count 0 3 / soft n from 2", "n", (0, 2), (2, 2))
        self.assert_classes("ask m count 0 9 / ask n count 0 2 / each r n / end / soft any r m from 5", "n", (0, 1), (1, 1), (2, 1))

    def test_keys_in_rounds(self):
        text = "ask g pick x y / ask n count 0 2 / each r n / ask a pick x y z / if a is x / ask b count 0 9 / end / soft b to 4 / end / soft any r ( a is z and g is x )"
        for name in ("a1", "a2"):
            self.assert_classes(text, name, ("x", 1), ("y", 1), ("z", 1))
        for name in ("b1", "b2"):
            self.assert_classes(text, name, (0, 5), (5, 5))
        self.assert_classes(text, "g", ("x", 1), ("y", 1))
        self.assertEqual(width_of(form(text)), 2 * 3 * 9 * 4)

    def test_conditions_that_no_made_row_has(self):
        for text in ("each r n / soft a is x / end", "each r n / end / soft any r a is x", "each r n / ask b pick x y / if a is x / end / end / soft every r not a is x"):
            self.assert_classes("ask a pick x y / ask n count 0 0 / " + text, "a", ("x", 2))
            self.assert_classes("ask a pick x y / ask n count 0 1 / " + text, "a", ("x", 1), ("y", 1))

    def test_conditions_of_every_row(self):
        for text in ("if a is x / end", "part p / leave p a is x / end", "hard a is x", "soft a is x", "soft not not a is x", "if not a is x / end"):
            self.assert_classes("ask a pick x y / " + text, "a", ("x", 1), ("y", 1))

    def test_class_of_every_value(self):
        for text in (
            "ask a pick u v w x y z / soft ( a is w or a is u )", "ask a some w x y z / soft ( a has y or a has w )", "ask a count 3 30 / soft ( a from 5 or a to 11 or a from 12 or a from 30 )",
            "ask a count 0 0", "ask a some x",
        ):
            steps, key = form(text), ("a", 0)
            sorts = Oracle(steps).sorts[key]
            for value in values_of(steps[0][2]):
                self.assertTrue(alike(class_of(steps, key, value), [value in values for values in sorts].index(True)))
        steps = form("ask a count 0 1000000 / soft a from 500000 / soft a to 500000")
        for value, number in ((0, 0), (499999, 0), (500000, 1), (500001, 2), (MILLION, 2)):
            self.assertEqual(class_of(steps, ("a", 0), value), number)

    def test_no_key(self):
        steps = form("ask a pick x y / ask n count 0 2 / each r n / ask b pick x / end / part p / end")
        for key in [("a", 1), ("b", 0), ("b", 3), ("r", 0), ("p", 0), ("n", 1), ("z", 0), ("a", False), ("b", True), ("a",), "a", ("a", 0, 0), ["a", 0], *THINGS]:
            if key != ("a", 0) or not alike(key, ("a", 0)):
                refuse(self, NoKey, classes_of, steps, key)
                refuse(self, NoKey, class_of, steps, key, "x")
                refuse(self, NoKey, class_of, steps, key, None)

    def test_no_value(self):
        steps = form("ask a pick x y / ask b some x y / ask c count 1 9")
        for name, no_values in (("a", ("z", ("x",), 0)), ("b", (("y", "x"), "x", ["x"], ("z",))), ("c", (0, 10, True, "1", TOP))):
            for value in [*no_values, *THINGS]:
                if not any(alike(value, one) for one in values_of(dict(a=steps[0][2], b=steps[1][2], c=steps[2][2])[name])):
                    refuse(self, NoValue, class_of, steps, (name, 0), value)

    def test_no_form(self):
        for thing in [*THINGS, form("hard a is x"), [("ask", "a", ("pick", ("x",)))]]:
            if not alike(thing, ()):
                refuse_form(self, -1, width_of, thing)
                refuse_form(self, -1, classes_of, thing, ("a", 0))
                refuse_form(self, -1, class_of, thing, ("a", 1), None)

    def test_widths(self):
        for text, width in (
            ("", 1), ("ask a pick x y", 1), ("ask a pick x y / soft a is x", 2), ("ask a some x y z / soft a has x / soft a has y", 4), ("ask n count 0 4 / each r n / end", 5),
            ("ask n count 0 4 / each r n / ask a pick x y / soft a is x / end", 80), ("ask n count 0 0 / each r n / ask a pick x y / soft a is x / end", 1),
            ("ask a count 0 9 / ask b pick x y z / soft ( a from 3 and a to 7 and b is x )", 6),
        ):
            self.assertTrue(alike(width_of(form(text)), width))

    def test_width_of_any_form(self):
        steps = "ask n count 4 4 / each r n" + "".join(f" / ask a{name} some u v w x y z / soft {joint([f'a{name} has {one}' for one in 'uvwxyz'])}" for name in "abcdefghijklmnopqrstuvwxyz")
        found = width_of(form(steps + " / end"))
        self.assertEqual(found, 64 ** (26 * 4))
        self.assertEqual(width_of(wide_form(WIDE)), 2000)
        self.assertEqual(width_of(wide_form(WIDER)), 2001)

    def test_too_wide(self):
        steps = wide_form(WIDE)
        self.assertEqual(len(classes_of(steps, ("c", 0))), 20)
        self.assertEqual(classes_of(steps, ("a", 0))[-1], (9, 992))
        self.assertEqual(class_of(steps, ("b", 0), 1000), 9)
        wider = wide_form(WIDER)
        self.assertTrue(is_form(wider))
        for key in [("a", 0), ("z", 0), ("a", 1), None, []]:
            refuse(self, TooWide, classes_of, wider, key)
            for value in (0, -1, None, []):
                refuse(self, TooWide, class_of, wider, key, value)

    def test_at_random(self):
        chance = random.Random(46)
        many = 0
        while many < 400:
            steps = random_form(chance, chance.randrange(4, 24))
            oracle = Oracle(steps)
            width = 1
            for key in oracle.kinds:
                width *= len(oracle.sorts[key])
            self.assertEqual(width_of(steps), width)
            if width > 2000:
                continue
            many += 1
            for key, kind in made_rows.keys_asked(steps):
                found = classes_of(steps, key)
                self.assertTrue(alike(found, tuple((values[0], len(values)) for values in oracle.sorts[key])), (steps, key))
                self.assertEqual(sum(size for _, size in found), len(values_of(kind)))
                for value in values_of(kind):
                    self.assertEqual(class_of(steps, key, value), oracle.number(key, value))
