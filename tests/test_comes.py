import copy
import random
import unittest

from askround.asking.comes import come_to, shows_come
from askround.asking.made import made, run
from askround.asking.plain import read
from askround.asking.states import is_shut, table_of
from askround.errors import NoKey, TooWide
from askround.forms.trees import keys_of
from tests.bends import bent, broken_layers, with_node
from tests.oracles import Oracle
from tests.support import THINGS, alike, answer_truth, refuse, refuse_form
from tests.test_classes import WIDE, WIDER, wide_form
from tests.test_made import key_of
from tests.test_plain import answers_of
from tests.test_states import STEPS, small_form
from tests.trees import form

# b is never asked; 0 a, 1 unless, 2 b, 3 c
SHUT = form("ask a pick x y / if ( a is x and not a is x ) / ask b pick x / end / ask c pick x / soft b is x / soft a is x")
SHUT_TABLE = ((0, ()), (3, (0, -1)), (3, (1, -1)))


def pairs_of(text):
    return tuple(answers_of(text).items())


class TestComeTo(unittest.TestCase):
    def assert_come(self, steps, key, text, *layers):
        """A key is come to by so many answers; these, where just one way is right."""
        key = key_of(key)
        kept = copy.deepcopy(steps)
        found = come_to(steps, key)
        self.assertTrue(alike(kept, steps))
        self.assertTrue(alike(found, ("answers", pairs_of(text), layers)), found)
        answers = dict(found[1])
        for told in (read(steps, answers, None, True), run(made(steps), answers, None, True)):
            self.assertTrue(alike((told[0], told[2]), (tuple(answers), ("ask", key))))
        self.assertTrue(answer_truth(self, shows_come, steps, key, found))

    def assert_never(self, steps, key):
        found = come_to(steps, key_of(key))
        self.assertTrue(alike(found, ("never", table_of(steps))), found)
        self.assertTrue(answer_truth(self, shows_come, steps, key_of(key), found))
        self.assertTrue(is_shut(steps, key_of(key), found[1]))

    def test_asked_first(self):
        self.assert_come(STEPS, "a", "")
        self.assert_come(form("part p / ask a pick x / end"), "a", "")

    def test_behind_ifs(self):
        self.assert_come(STEPS, "b", "a=x", ((0, ()),))
        self.assert_come(STEPS, "c", "a=y", ((0, ()),))
        self.assert_come(form("ask a pick x y z / if a is z / ask b pick x / end / ask c pick x"), "b", "a=z", ((0, ()),))
        self.assert_come(form("ask a count 2 9 / if ( a from 5 and a to 7 ) / ask b pick x / end"), "b", "a=5", ((0, ()),))
        self.assert_come(form("ask a some x y z / if ( a has z and not a has x ) / ask b pick x / end"), "b", "a=+z", ((0, ()),))

    def test_the_short_way_round(self):
        # Behind a=x three are asked, behind a=y one that has the same end.
        steps = form("ask a pick x y / if a is x / ask b pick x / ask c pick x / else / ask d pick x / end / ask e pick x")
        # 0 a, 1 unless, 2 b, 3 c, 4 go, 5 d, 6 e
        self.assert_come(steps, "e", "a=y d=x", ((0, ()),), ((2, ()), (5, ())))
        steps = form("ask a pick x y / if a is x / ask b pick x / ask c pick x / end / ask e pick x / ask f pick x")
        # 0 a, 1 unless, 2 b, 3 c, 4 e, 5 f
        self.assert_come(steps, "f", "a=y e=x", ((0, ()),), ((2, ()), (4, ())))

    def test_one_state_in_two_layers(self):
        steps = form("ask a pick x y / if a is x / ask b pick x / end / ask c pick x y / ask d pick x / if c is x / ask e pick x / end / hard a is x / ask f pick x")
        # 0 a, 1 unless, 2 b, 3 c, 4 d, 5 unless, 6 e, 7 hard, 8 f
        self.assert_come(
            steps, "f", "a=x b=x c=y d=x", ((0, ()),), ((2, (0,)), (3, (1,))), ((3, (0,)), (4, (1, 0)), (4, (1, 1))), ((4, (0, 0)), (4, (0, 1)), (6, (1,))),
        )

    def test_behind_rounds(self):
        steps = form("ask n count 0 2 / each r n / ask a pick x y / end / if any r a is y / ask b pick x / end")
        # 0 n, 1 unless, 2 a1, 3 unless, 4 a2, 5 unless, 6 b
        self.assert_come(steps, "a1", "n=1", ((0, ()),))
        self.assert_come(steps, "a2", "n=2 a1=x", ((0, ()),), ((2, (1,)), (2, (2,))))
        self.assert_come(steps, "b", "n=1 a1=y", ((0, ()),), ((2, (1,)), (2, (2,))))

    def test_behind_leaves(self):
        steps = form("ask a pick x y / part p / leave p a is x / ask b pick x / leave p b is x / ask c pick x / end / ask d pick x")
        self.assert_come(steps, "b", "a=y", ((0, ()),))
        self.assert_come(steps, "d", "a=x", ((0, ()),))
        self.assert_never(steps, "c")

    def test_behind_hards_and_softs(self):
        steps = form("ask a pick x y / hard a is y / ask b pick x y / soft b is x / if not b is x / ask c pick x / end")
        self.assert_come(steps, "b", "a=y", ((0, ()),))
        self.assert_come(steps, "c", "a=y b=y", ((0, ()),), ((2, ()),))

    def test_never(self):
        self.assert_never(SHUT, "b")
        self.assertTrue(alike(come_to(SHUT, ("b", 0)), ("never", SHUT_TABLE)))
        self.assert_never(form("ask n count 0 1 / hard not n from 1 / each r n / ask a pick x / end"), "a1")
        self.assert_never(form("ask n count 0 2 / each r n / ask a pick x / end / if n from 3 / ask b pick x / end"), "b")
        self.assert_never(form("ask n count 0 4 / each r n / ask a pick x y / hard ( a is x or n to 2 ) / if a is y / hard n from 3 / ask b pick x / end / end"), "b3")
        self.assert_never(form("ask a pick x / hard not a is x / ask b pick x / ask c pick x"), "c")

    def test_by_plain_reading_at_random(self):
        chance = random.Random(54)
        seen = {"never": 0, "answers": 0, "far": 0}
        while min(seen.values()) < 30:
            steps = small_form(chance)
            oracle = Oracle(steps)
            for key in oracle.kinds:
                found = come_to(steps, key)
                many = oracle.fewest(key)
                self.assertEqual(many, None if found[0] == "never" else len(found[1]), (steps, key))
                self.assertTrue(oracle.shows_come(key, found), (steps, key, found))
                self.assertTrue(shows_come(steps, key, found))
                if many is None:
                    self.assertTrue(alike(found[1], oracle.reached()))
                seen[found[0]] += 1
                seen["far"] += many is not None and many > 3


class TestShowsCome(unittest.TestCase):
    def assert_shows(self, steps, key, *things):
        for thing in things:
            self.assertTrue(answer_truth(self, shows_come, steps, key_of(key), thing), thing)

    def assert_none(self, steps, key, *things):
        for thing in things:
            self.assertFalse(answer_truth(self, shows_come, steps, key_of(key), thing), thing)

    def test_other_answers(self):
        layers = (((0, ()),),)
        for text, right in (("a=y", True), ("a=z", True), ("a=x", False), ("", False), ("a=w", False), ("c=0", False), ("a=y c=0", False), ("a=y b=x", False), ("a=x b=x", False)):
            self.assertIs(answer_truth(self, shows_come, STEPS, ("c", 0), ("answers", pairs_of(text), layers)), right, text)
        for answers in (((("a", False), "y"),), ((("a", 0), "y", 0),), ((("a", 0),),), ((["a", 0], "y"),), [(("a", 0), "y")], ({("a", 0): "y"},), {("a", 0): "y"}, (("a", "y"),), ("ay",),
                        ((("a", 0), "y"), (("a", 0), "y")), ((("a", 0), "y"), (("a", 0), "z")), (None,), None, "", (([], []),)):
            self.assert_none(STEPS, "c", ("answers", answers, layers), ("answers", answers, layers * 2), ("answers", answers, ()))

    def test_answers_in_their_order(self):
        steps = form("ask a pick x y / ask n count 1 2 / ask b pick x")
        layers = (((0, ()),), ((1, ()),))
        self.assert_shows(steps, "b", ("answers", pairs_of("a=x n=1"), layers), ("answers", pairs_of("a=y n=2"), layers))
        self.assert_none(steps, "b", ("answers", pairs_of("n=1 a=x"), layers), ("answers", ((("a", 0), "x"), (("n", 0), True)), layers), ("answers", pairs_of("a=x n=3"), layers))
        self.assert_none(steps, "b", ("answers", pairs_of("a=x n=1 b=x"), layers), ("answers", pairs_of("a=x n=1 b=x"), layers + (((2, ()),),)), ("answers", pairs_of("a=x n=1"), layers[:1]))

    def test_not_the_fewest(self):
        steps = form("ask a pick x y / if a is x / ask b pick x / end / ask c pick x")
        # 0 a, 1 unless, 2 b, 3 c
        self.assert_shows(steps, "c", ("answers", pairs_of("a=y"), (((0, ()),),)))
        for second in (((2, ()),), ((2, ()), (3, ()))):
            self.assert_none(steps, "c", ("answers", pairs_of("a=x b=x"), (((0, ()),), second)))

    def test_more_states_in_layers(self):
        steps = form("ask a pick x y / ask b pick x y / ask c pick x y / hard ( a is x or b is x ) / ask d pick x / soft c is x")
        # 0 a, 1 b, 2 c, 3 hard, 4 d
        answers = pairs_of("a=x b=x c=x")
        first, second, third = ((0, ()),), ((1, (0,)), (1, (1,))), ((2, (0, 0)), (2, (0, 1)), (2, (1, 0)), (2, (1, 1)))
        self.assert_shows(steps, "d", ("answers", answers, (first, second, third)))
        self.assert_shows(steps, "d", ("answers", answers, (first, ((0, ()), *second), tuple(sorted([*second, *third])))))
        self.assert_shows(steps, "d", ("answers", answers, (first, ((1, (-1,)), *second), ((2, (-1, 0)), (2, (-1, 1)), *third))))
        self.assert_shows(steps, "d", ("answers", answers, (first, second, ((0, ()), (1, (-1,)), (2, (-1, -1)), *third))))
        # Not all behind the one more, or the key itself asked there.
        self.assert_none(steps, "d", ("answers", answers, (first, ((1, (-1,)), *second), ((2, (-1, 0)), *third))))
        self.assert_none(steps, "d", ("answers", answers, (first, second, (*third, (4, (0,))))), ("answers", answers, (first, (*second, (4, (0,))), third)))
        self.assert_none(steps, "d", ("answers", answers, (((0, ()), (2, (0, 0))), second, third)), ("answers", answers, (((0, ()), (1, (-1,))), second, third)))
        self.assert_shows(steps, "d", ("answers", answers, (first, ((1, (0,)), (1, (1,)), (2, (1, 1))), third)))

    def test_bent_layers(self):
        found = come_to(STEPS, ("d", 0))
        word, answers, layers = found
        self.assertEqual(len(layers), 2)
        for broken in broken_layers(layers, (False, ())):
            self.assert_none(STEPS, "d", (word, answers, broken))
        self.assert_none(STEPS, "d", [word, answers, layers], (word, answers), (word, answers, layers, ()), ("never", layers[0]), ("never", ()))
        self.assert_none(STEPS, "d", ("Answers", answers, layers), ("never", answers, layers), ([], answers, layers), (("answers",), answers, layers), (answers, layers), (None, answers, layers))

    def test_never_with_any_shut_table(self):
        more = tuple(sorted([*SHUT_TABLE, (3, (1, 0)), (3, (-1, -1))]))
        self.assert_shows(SHUT, "b", ("never", SHUT_TABLE), ("never", more))
        self.assert_none(SHUT, "b", ("never", tuple(sorted([*SHUT_TABLE, (2, (-1,)), (3, (-1, 0))]))), ("never", SHUT_TABLE[1:]), ("never", SHUT_TABLE[:2]), ("never", ()), ("never", list(SHUT_TABLE)))
        self.assert_none(SHUT, "b", ["never", SHUT_TABLE], ("never", SHUT_TABLE, ()), ("never",), SHUT_TABLE, ("Never", SHUT_TABLE), ("answers", SHUT_TABLE), ("answers", (), ()), (SHUT_TABLE, "never"))
        for key in ("a", "c"):
            self.assert_none(SHUT, key, ("never", SHUT_TABLE), ("never", ()))
        self.assert_shows(SHUT, "a", ("answers", (), ()))

    def test_of_anything_a_truth_is_told(self):
        for thing in THINGS:
            self.assert_none(STEPS, "d", thing, ("never", thing), ("answers", thing, thing), ("answers", (), thing), (thing, ()), (thing, (), ()))
            if not alike(thing, ()):
                self.assert_none(STEPS, "a", ("answers", thing, ()), ("answers", (), thing), thing)

    def test_bent_at_random(self):
        chance = random.Random(55)
        seen = {}
        for _ in range(60):
            steps = small_form(chance)
            oracle = Oracle(steps)
            for key in chance.sample(list(oracle.kinds), min(3, len(oracle.kinds))):
                told = come_to(steps, key)
                for _ in range(25):
                    thing = chance.choice((bent(chance, told), bent(chance, bent(chance, told)), with_more(chance, oracle, told)))
                    wanted = oracle.shows_come(key, thing)
                    self.assertIs(answer_truth(self, shows_come, steps, key, thing), wanted, (steps, key, thing))
                    seen[wanted, told[0]] = seen.get((wanted, told[0]), 0) + 1
        self.assertEqual(len(seen), 4)
        self.assertGreater(min(seen.values()), 40, seen)


def with_more(chance, oracle, told):
    """What is told, with a state more in the table or in a layer, closed or not."""
    at, live = chance.choice(list(oracle.lives.items()))
    more = (at, tuple(chance.randrange(-1, len(oracle.sorts[key])) for key in live))
    return with_node(chance, told, more)


class TestRefusals(unittest.TestCase):
    def test_no_form(self):
        for thing in [*THINGS, form("hard a is x"), list(STEPS)]:
            if not alike(thing, ()):
                refuse_form(self, -1, come_to, thing, None)
                refuse_form(self, -1, shows_come, thing, None, None)

    def test_too_wide(self):
        narrow, wider = wide_form(WIDE), wide_form(WIDER)
        for key in (("a", 0), ("z", 0), None, []):
            refuse(self, TooWide, come_to, wider, key)
            refuse(self, TooWide, shows_come, wider, key, ("answers", (), ()))
        found = come_to(narrow, ("c", 0))
        self.assertEqual([len(layer) for layer in found[2]], [1, 10])
        self.assertIs(shows_come(narrow, ("c", 0), found), True)

    def test_no_key(self):
        for steps in (STEPS, (), form("ask n count 0 0 / each r n / ask a pick x / end")):
            for key in [("z", 0), ("a", 1), ("a", False), ("a",), "a", ["a", 0], *THINGS]:
                if not any(alike(key, one) for one in keys_of(steps)):
                    refuse(self, NoKey, come_to, steps, key)
                    refuse(self, NoKey, shows_come, steps, key, None)
                    refuse(self, NoKey, shows_come, steps, key, ("answers", (), ()))
