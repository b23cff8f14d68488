import copy
import random
import unittest

from askround.asking.classes import width_of
from askround.asking.hangs import hang_pair, hangs_on, shows_hang
from askround.asking.plain import read
from askround.errors import NoKey, TooWide
from askround.forms.trees import is_form, keys_of
from tests.bends import bent
from tests.oracles import Oracle, how_many
from tests.support import THINGS, alike, answer_truth, refuse, refuse_form
from tests.test_classes import WIDE, WIDER, wide_form
from tests.test_made import key_of
from tests.test_plain import answers_of
from tests.test_states import STEPS, keys, small_form
from tests.trees import form

AB = form("ask a pick x y z / if a is x / ask b pick x y / end / ask c pick x y")


class TestHangs(unittest.TestCase):
    def assert_hangs(self, steps, **hanging):
        """What hangs on each key; what isn't named hangs on none."""
        steps = form(steps) if isinstance(steps, str) else steps
        self.assertTrue(is_form(steps))
        kept = copy.deepcopy(steps)
        for key in keys_of(steps):
            wanted = keys(hanging.get(key[0] + str(key[1] or ""), ""))
            self.assertTrue(alike(hangs_on(steps, key), wanted), (key, hangs_on(steps, key)))
            for other in keys_of(steps):
                self.assert_pair(steps, other, key, other in wanted)
        self.assertTrue(alike(kept, steps))

    def assert_pair(self, steps, key, other, right):
        found = hang_pair(steps, key, other)
        if not right:
            self.assertIsNone(found)
            return
        answers, value = found
        self.assertEqual((type(found), len(found), type(answers)), (tuple, 2, dict))
        self.assertEqual(set(answers), set(keys_of(steps)))
        asked = [key in read(steps, told, None, True)[0] for told in (answers, {**answers, other: value})]
        self.assertEqual(sorted(asked), [False, True])
        self.assertNotEqual(answers[other], value)
        self.assertTrue(answer_truth(self, shows_hang, steps, key, other, found))

    def test_ifs(self):
        self.assert_hangs(AB, a="b")
        self.assert_hangs("ask a pick x y / ask b pick x y")
        self.assert_hangs("ask a pick x y / if a is x / ask b pick x / else / ask c pick x / end / ask d pick x", a="b c")
        self.assert_hangs("ask z pick x y / ask a pick x y / if ( z is x and a is x ) / ask c pick x / ask b pick x / ask aa pick x / end", z="aa b c", a="aa b c")
        self.assert_hangs("ask a pick x y / if ( a is x or a is y ) / ask b pick x / end")

    def test_softs_are_let_and_hards_end(self):
        self.assert_hangs("ask a pick x y / soft a is x / ask b pick x / hard a is x / ask c pick x / ask d pick x", a="c d")
        self.assert_hangs(STEPS, a="b", c="d e")

    def test_on_a_key_that_is_not_always_asked(self):
        # c hangs on b where a is x; where it isn't, b is not taken.
        self.assert_hangs("ask a pick x y / if a is x / ask b pick x y / end / if b is x / ask c pick x / end", a="b c", b="c")

    def test_not_through_others(self):
        # c comes to be asked as b is answered; b itself isn't turned by a.
        self.assert_hangs("ask a pick x y / ask b pick x y / if b is x / ask c pick x / end", b="c")

    def test_rounds(self):
        self.assert_hangs("ask n count 0 2 / each r n / ask a pick x y / end / ask b pick x", n="a1 a2")
        self.assert_hangs("ask n count 1 2 / each r n / ask a pick x y / end / ask b pick x", n="a2")
        self.assert_hangs("ask n count 1 2 / each r n / ask a pick x y / if a is x / ask b pick x / end / end / if every r a is x / ask c pick x / end", n="a2 b2 c", a1="b1 c", a2="b2 c")
        self.assert_hangs("ask n count 0 1 / part p / each r n / ask a pick x y / leave p a is x / end / ask b pick x / end / ask c pick x", n="a1 b", a1="b")

    def test_leaves(self):
        self.assert_hangs("ask a pick x y / part p / leave p a is x / ask b pick x y / leave p b is x / ask c pick x / end / ask d pick x", a="b c", b="c")

    def test_never_asked_and_of_one_class(self):
        self.assert_hangs("ask a pick x y / if ( a is x and a is y ) / ask b pick x y / end / if b is x / ask c pick x / end")
        self.assert_hangs("ask a pick x / if a is x / ask b pick x y / end / if b is x / ask c pick x / end", b="c")

    def test_classes_with_many_values(self):
        steps = form("ask a count 0 1000000 / ask b some u v w x y z / if ( a from 500000 and not a from 500001 and b has z ) / ask c pick x / end")
        self.assertEqual(hangs_on(steps, ("a", 0)), (("c", 0),))
        answers, value = hang_pair(steps, ("c", 0), ("a", 0))
        self.assertEqual([answers[("a", 0)] == 500000, value == 500000].count(True), 1)
        self.assertIn("z", answers[("b", 0)])
        for other in (0, 499999, 500001, 10 ** 6):
            self.assertIs(shows_hang(steps, ("c", 0), ("a", 0), ({**answers, ("a", 0): 500000}, other)), True)
            self.assertIs(shows_hang(steps, ("c", 0), ("a", 0), ({**answers, ("a", 0): other}, 500000)), True)
            self.assertIs(shows_hang(steps, ("c", 0), ("a", 0), ({**answers, ("a", 0): other}, 7)), False)

    def test_by_all_answers_at_random(self):
        chance = random.Random(58)
        seen = {True: 0, False: 0}
        while min(seen.values()) < 400:
            steps = small_form(chance, 12)
            oracle = Oracle(steps)
            if how_many(oracle.kinds) > 600:
                continue
            hanging = oracle.hanging()
            for key in oracle.kinds:
                self.assertEqual(hangs_on(steps, key), tuple(sorted(one for one, other in hanging if other == key)), (steps, key))
                for other in oracle.kinds:
                    self.assert_pair(steps, key, other, (key, other) in hanging)
                    seen[(key, other) in hanging] += 1


class TestShowsHang(unittest.TestCase):
    B, A, C = ("b", 0), ("a", 0), ("c", 0)

    def assert_shows(self, right, steps, key, other, text, value):
        answers = answers_of(text) if isinstance(text, str) else text
        self.assertIs(answer_truth(self, shows_hang, steps, key, other, (answers, value)), right, (answers, value))

    def test_any_such(self):
        for text, value, right in (
            ("a=x b=x c=x", "y", True), ("a=x b=y c=y", "z", True), ("a=y b=x c=x", "x", True), ("a=z b=x c=y", "x", True), ("a=y b=x c=x", "z", False), ("a=x b=x c=x", "x", False),
            ("a=x b=x c=x", "w", False), ("a=y b=x c=x", "y", False),
        ):
            self.assert_shows(right, AB, self.B, self.A, text, value)
            self.assert_shows(False, AB, self.C, self.A, text, value)
            self.assert_shows(False, AB, self.A, self.B, text, value)

    def test_answers_that_are_not_whole(self):
        for text in ("a=x b=x", "a=x c=x", "b=x c=x", "a=x", "", "a=x b=x c=x d=x", "a=x b=x c1=x", "a=x b=x c=x a1=x", "a=x b=x z=x"):
            self.assert_shows(False, AB, self.B, self.A, text, "y")
        for answers in ({("a", False): "x", ("b", 0): "x", ("c", 0): "x"}, {"a": "x", "b": "x", "c": "x"}, {("a", 0): "x", ("b", 0): "x", ("c", "0"): "x"}, {("a", 0): "x", ("b", 0): "x", 0: "x"},
                        {("a", 0): "x", ("b", 0): "x", ("c",): "x"}, {("a", 0): "x", ("b", 0): "x", None: "x"}, (("a", 0), "x"), ((("a", 0), "x"), (("b", 0), "x"), (("c", 0), "x")), [], (), None, 3):
            self.assert_shows(False, AB, self.B, self.A, answers, "y")
        whole = answers_of("a=x b=x c=x")
        self.assertIs(shows_hang(AB, self.B, self.A, (dict(reversed(whole.items())), "y")), True)

    def test_answers_of_other_values(self):
        for name, value in (("a", "w"), ("b", "z"), ("c", "z"), ("c", ("x",)), ("c", None), ("c", 0), ("b", True), ("c", ["x"]), ("b", {})):
            self.assert_shows(False, AB, self.B, self.A, {**answers_of("a=x b=x c=x"), (name, 0): value}, "y")
        steps = form("ask n count 0 1 / each r n / ask a some x y / end / ask m count 0 1")
        for n, a, m, value, right in ((0, (), 0, 1, True), (1, ("x",), 1, 0, True), (False, (), 0, 1, False), (0, (), False, 1, False), (0, (), True, 1, False), (0, (), 0, True, False), (1, (), 0, False, False),
                                      (0, ("y", "x"), 0, 1, False), (0, (), 0, 2, False), (0, (), 2, 1, False), (0, "x", 0, 1, False), (0, (), 0, 0, False), (1, (), 0, 1, False)):
            self.assert_shows(right, steps, ("a", 1), ("n", 0), {("n", 0): n, ("a", 1): a, ("m", 0): m}, value)

    def test_the_other_value(self):
        for value in [*THINGS, ("y",), ["y"], "w", "yy", 0]:
            self.assert_shows(False, AB, self.B, self.A, "a=x b=x c=x", value)

    def test_nothing_hangs_on_itself(self):
        for steps in (AB, form("ask a pick x y / hard a is x"), form("ask n count 0 2 / each r n / ask a pick x y / soft a is x / end")):
            self.assertTrue(is_form(steps))
            for key in keys_of(steps):
                self.assertIsNone(hang_pair(steps, key, key))
                self.assertNotIn(key, hangs_on(steps, key))
        for text, value in (("a=x b=x c=x", "y"), ("a=y b=x c=x", "x"), ("a=z b=y c=y", "y")):
            for key in (self.A, self.B, self.C):
                self.assert_shows(False, AB, key, key, text, value)

    def test_shapes(self):
        answers = answers_of("a=x b=x c=x")
        for thing in ((answers, "y", 0), (answers,), [answers, "y"], ("y", answers), answers, ("hangs", answers, "y"), (answers, answers), ((answers, "y"),), None, ()):
            self.assertIs(answer_truth(self, shows_hang, AB, self.B, self.A, thing), False, thing)

    def test_of_anything_a_truth_is_told(self):
        for thing in THINGS:
            for told in (thing, (thing, "y"), (answers_of("a=x b=x c=x"), thing), ({thing: "x"} if isinstance(thing, (str, int)) else {}, "y"), ({**answers_of("a=x b=x"), ("c", 0): thing}, "y")):
                self.assertIs(answer_truth(self, shows_hang, AB, self.B, self.A, told), False)
                self.assertIs(answer_truth(self, shows_hang, AB, self.C, self.A, told), False)

    def test_bent_at_random(self):
        chance = random.Random(59)
        seen = {True: 0, False: 0}
        while min(seen.values()) < 400:
            steps = small_form(chance)
            oracle = Oracle(steps)
            hanging = [(key, other) for other in oracle.kinds for key in hangs_on(steps, other)]
            for key, other in chance.sample(hanging, min(4, len(hanging))):
                told = hang_pair(steps, key, other)
                for _ in range(15):
                    thing = bent(chance, told)
                    pair = chance.choice(((key, other), (key, other), (other, key), (key, chance.choice(list(oracle.kinds)))))
                    wanted = oracle.shows_hang(*pair, thing)
                    self.assertIs(answer_truth(self, shows_hang, steps, *pair, thing), wanted, (steps, pair, thing))
                    seen[wanted] += 1


class TestRefusals(unittest.TestCase):
    def test_no_form(self):
        for thing in [*THINGS, form("hard a is x"), list(STEPS)]:
            if not alike(thing, ()):
                refuse_form(self, -1, hangs_on, thing, None)
                refuse_form(self, -1, hang_pair, thing, None, None)
                refuse_form(self, -1, shows_hang, thing, None, None, None)

    def test_too_wide(self):
        narrow, wider = wide_form(WIDE), wide_form(WIDER)
        for key in (("a", 0), ("z", 0), None, []):
            refuse(self, TooWide, hangs_on, wider, key)
            refuse(self, TooWide, hang_pair, wider, ("a", 0), key)
            refuse(self, TooWide, hang_pair, wider, key, ("a", 0))
            refuse(self, TooWide, shows_hang, wider, key, key, None)
        self.assertEqual(hangs_on(narrow, ("a", 0)), ())
        self.assertIsNone(hang_pair(narrow, ("c", 0), ("a", 0)))
        self.assertIs(shows_hang(narrow, ("c", 0), ("a", 0), ({("a", 0): 0, ("b", 0): 0, ("c", 0): 0}, 1)), False)

    def test_no_key(self):
        for key in [("z", 0), ("a", 1), ("a", False), ("a",), "a", ["a", 0], *THINGS]:
            if not alike(key, ("a", 0)):
                refuse(self, NoKey, hangs_on, AB, key)
                for other in (("a", 0), ("b", 0), ("z", 0), None):
                    refuse(self, NoKey, hang_pair, AB, key, other)
                    refuse(self, NoKey, hang_pair, AB, other, key)
                    refuse(self, NoKey, shows_hang, AB, key, other, None)
                    refuse(self, NoKey, shows_hang, AB, other, key, (answers_of("a=x b=x c=x"), "y"))

    def test_wide_forms_in_few_seconds(self):
        steps = form("ask n count 0 4 / " + " / ".join(f"ask {name} pick x y" for name in "abcdefgh") + " / if ( a is x and h is y ) / each r n / "
                     + " / ".join(f"ask z{name} pick x" for name in "abcdefghijklmnopqrst") + " / end / end / soft ( b is x or c is x or d is x or e is x or f is x or g is x )")
        self.assertEqual(width_of(steps), 1280)
        for name, many in (("n", 80), ("a", 80), ("h", 80), ("b", 0), ("za4", 0)):
            self.assertEqual(len(hangs_on(steps, key_of(name))), many)
        self.assert_told(hang_pair(steps, ("zt", 4), ("n", 0)), steps)
        self.assertIsNone(hang_pair(steps, ("zt", 4), ("b", 0)))

    def assert_told(self, found, steps):
        self.assertIs(shows_hang(steps, ("zt", 4), ("n", 0), found), True)
