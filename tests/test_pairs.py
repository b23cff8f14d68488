import copy
import random
import unittest

from askround.asking.classes import width_of
from askround.asking.pairs import shows_two, two_forms
from askround.asking.plain import read
from askround.errors import TooWide
from askround.forms.trees import is_form
from tests.bends import bent, broken_layers, with_node
from tests.oracles import PairOracle, how_many
from tests.rewrites import other_form
from tests.support import THINGS, alike, answer_truth, refuse, refuse_form
from tests.test_classes import joint
from tests.test_comes import pairs_of
from tests.test_states import STEPS, TABLE, small_form
from tests.trees import form

AB = "ask a pick x y / if a is x / ask b pick x y / end / ask c pick x"
LIKE = ("ask a pick x y / hard a is x / ask b pick x y / soft b is x / ask c pick x", "ask a pick x y / hard not a is y / ask b pick x y / soft not b is y / ask c pick x")


def doubled(states):
    return tuple((*state, *state) for state in states)


def wide(letters, cut):
    """A form that asks these counts, each parted into so many classes, with a soft by each."""
    rows = []
    for name in letters:
        rows += [f"ask {name} count 0 99", "soft " + joint([f"{name} from {k}" for k in range(1, cut)])]
    return form(" / ".join(rows))


class TestTwoForms(unittest.TestCase):
    def told(self, one, other):
        one, other = (form(steps) if isinstance(steps, str) else steps for steps in (one, other))
        self.assertTrue(is_form(one) and is_form(other), (one, other))
        kept = copy.deepcopy((one, other))
        found = two_forms(one, other)
        self.assertTrue(alike(kept, (one, other)))
        self.assertTrue(answer_truth(self, shows_two, one, other, found), found)
        turned = two_forms(other, one)
        self.assertTrue(answer_truth(self, shows_two, other, one, turned), turned)
        self.assertEqual((turned[0], len(turned[1])), (found[0], len(found[1])))
        if found[0] == "alike":
            self.assertEqual(sorted(pair[2:] + pair[:2] for pair in found[1]), list(turned[1]))
        return found

    def assert_alike(self, one, other):
        found = self.told(one, other)
        self.assertEqual((found[0], len(found)), ("alike", 2), found)
        return found[1]

    def assert_parted(self, one, other, many):
        found = self.told(one, other)
        self.assertEqual((found[0], len(found), len(found[1]), len(found[2])), ("parted", 3, many, many), found)
        return found

    def test_a_form_and_itself(self):
        for steps in (STEPS, AB, LIKE[0], "ask n count 0 2 / each r n / ask a pick x y / soft a is x / end / hard any r a is x / ask b pick x"):
            self.assert_alike(steps, steps)
        self.assertTrue(alike(self.assert_alike(STEPS, STEPS), doubled(TABLE)))
        self.assertTrue(alike(two_forms((), ()), ("alike", ())))
        self.assertTrue(alike(two_forms((), form("part p / end")), ("alike", ())))

    def test_said_otherwise(self):
        self.assert_alike(AB, "ask a pick x y / if not not a is x / ask b pick x y / end / ask c pick x")
        self.assert_alike(AB, "ask a pick x y / if not a is x / else / ask b pick x y / end / ask c pick x")
        self.assert_alike(AB, "ask a pick x y / if a is y / else / ask b pick x y / end / ask c pick x")
        self.assert_alike(AB, "part p / ask a pick x y / part q / leave q not a is x / ask b pick x y / end / ask c pick x / end")
        self.assert_alike(*LIKE)
        self.assert_alike("ask a pick x y / ask b pick x y / soft ( a is x and b is x )", "ask a pick x y / ask b pick x y / soft ( b is x and a is x )")
        self.assert_alike("ask a pick x y / ask b pick x y / soft ( a is x or b is x )", "ask a pick x y / ask b pick x y / soft not ( not b is x and not a is x )")
        self.assert_alike("ask a count 0 9 / soft a from 5", "ask a count 0 9 / soft not a to 4")
        self.assert_alike("ask a count 3 9 / soft a from 5", "ask a count 3 9 / soft ( a from 5 or a to 2 )")

    def test_rounds_said_otherwise(self):
        one = "ask n count 0 2 / each r n / ask a pick x y / end / hard any r a is x / ask b pick x"
        self.assert_alike(one, "ask n count 0 2 / each r n / ask a pick x y / end / hard not every r not a is x / ask b pick x")
        self.assert_alike(one, "ask n count 0 2 / each s n / ask a pick x y / end / hard any s a is x / ask b pick x")
        self.assert_alike(one, "ask n count 0 2 / if n from 1 / each r n / ask a pick x y / end / end / part p / leave p any r a is x / hard not n to 4 / end / ask b pick x")
        self.assert_parted(one, "ask n count 0 2 / each r n / ask a pick x y / end / hard every r a is x / ask b pick x", 1)

    def test_parted_at_once(self):
        for one, other in (
            ("ask a pick x", ""), ("ask a pick x", "ask b pick x"), ("ask a pick x y", "ask a pick y x"), ("ask a pick x", "ask a some x"), ("ask a pick x", "ask a pick x y"),
            ("ask a count 0 9", "ask a count 0 8"), ("ask a count 0 9", "ask a count 1 9"), ("part p / end", "part p / ask a pick x / end"),
        ):
            found = self.assert_parted(one, other, 0)
            self.assertTrue(alike(found, ("parted", (), ())))

    def test_parted_by_keys_and_kinds(self):
        found = self.assert_parted("ask a pick x y / ask b pick x", "ask a pick x y / ask c pick x", 1)
        self.assertTrue(alike(found, ("parted", ((("a", 0), "x"),), (((0, (), 0, ()),),))))
        self.assert_parted("ask a pick x y / ask b pick x", "ask a pick x y / ask b pick y", 1)
        self.assert_parted("ask a pick x y / ask b count 0 3", "ask a pick x y / ask b count 0 4", 1)
        self.assert_parted("ask a pick x y / ask b pick x", "ask a pick x y", 1)
        self.assert_parted("ask a pick x y / ask b pick x / ask c pick x", "ask a pick x y / ask c pick x / ask b pick x", 1)
        found = self.assert_parted("ask a pick x y z / if a is z / ask b pick x / end", "ask a pick x y z", 1)
        self.assertTrue(alike(found[1], ((("a", 0), "z"),)))

    def test_parted_by_softs(self):
        self.assert_parted("ask a pick x y / soft a is x", "ask a pick x y", 1)
        found = self.assert_parted("ask a pick x y / soft a is x / soft not a is x / ask b pick x", "ask a pick x y / soft a is y / ask b pick x", 1)
        self.assertTrue(alike(found[1], ((("a", 0), "y"),)))
        # As many softs since the last answer, not the same ones.
        self.assert_alike("ask a pick x y / soft a is x / soft not a is x / ask b pick x", "ask a pick x y / soft not a is x / soft a is x / ask b pick x")
        self.assert_alike("ask a pick x y / soft a is x / soft a is y", "ask a pick x y / soft ( a is x and a is y )")
        # As many on the whole, but not since the last answer.
        found = self.assert_parted("ask a pick x y / soft a is x / ask b pick x / soft a is y", "ask a pick x y / soft a is y / ask b pick x / soft a is x", 1)
        self.assert_parted("ask a pick x y / ask b pick x / soft a is x", "ask a pick x y / soft a is x / ask b pick x", 1)
        # Those ahead of a hard and ahead of the end count, too.
        self.assert_parted("ask a pick x y / soft a is x / hard a is x", "ask a pick x y / hard a is x / soft a is x", 1)
        self.assert_parted("ask a pick x y / hard a is x / soft a is y", "ask a pick x y / hard a is x", 1)
        self.assert_alike("ask a pick x y / hard a is x / soft a is x", "ask a pick x y / hard a is x")

    def test_a_hard_against_an_end(self):
        found = self.assert_parted("ask a pick x y / hard a is x", "ask a pick x y", 1)
        self.assertTrue(alike(found[1], ((("a", 0), "y"),)))
        self.assert_parted("ask a pick x y / hard a is x / ask b pick x", "ask a pick x y / if a is x / ask b pick x / end", 1)
        self.assert_parted("ask a pick x y / hard a is x", "ask a pick x y / soft a is x", 1)
        # Which hard it is counts for nothing.
        self.assert_alike("ask a pick x y / hard a is x / hard a is x / ask b pick x", "ask a pick x y / soft ( a is x or a is y ) / hard not a is y / ask b pick x")

    def test_parted_late(self):
        rows = " / ".join(f"ask {name} pick x y" for name in "abcde")
        found = self.assert_parted(rows + " / hard ( a is x or b is x or c is x or d is x or e is x )", rows, 5)
        self.assertEqual([value for _, value in found[1]], ["y"] * 5)
        self.assertEqual([len(layer) for layer in found[2]], [1, 2, 4, 8, 16])
        short = "ask a pick x y / if a is x / ask b pick x / ask c pick x / else / ask d pick x / end / ask e pick x"
        found = self.assert_parted(short, short + " / ask f pick x", 3)
        self.assertEqual([key for key, _ in found[1]], [("a", 0), ("d", 0), ("e", 0)])

    def test_classes_of_both(self):
        found = self.assert_parted("ask a count 0 9 / soft a from 3 / ask b pick x / if a from 5 / ask c pick x / end", "ask a count 0 9 / soft a from 3 / ask b pick x / if a from 7 / ask c pick x / end", 2)
        self.assertIn(found[1][0][1], (5, 6))
        self.assertTrue(alike(found[2][1], ((2, (0,), 2, (0,)), (2, (1,), 2, (1,)), (2, (2,), 2, (2,)), (2, (3,), 2, (3,)))))

    def test_keys_of_one_form_alone(self):
        # b stands in the first only, c in both but of other kinds; none of them is come to, so all have no class.
        one = form("ask a pick x y / if ( a is x and a is y ) / ask b pick x / ask c pick x / end / ask d pick x / soft ( a is x or b is x or c is x )")
        other = form("ask a pick x y / if ( a is x and a is y ) / ask c pick x y / end / ask d pick x / soft ( a is x or c is x )")
        pairs = self.assert_alike(one, other)
        # 0 a, 1 unless, 2 b, 3 c, 4 d; 0 a, 1 unless, 2 c, 3 d
        self.assertTrue(alike(pairs, ((0, (), 0, ()), (4, (0, -1, -1), 3, (0, -1)), (4, (1, -1, -1), 3, (1, -1)))), pairs)
        for marks, right in (((-1, -1), True), ((0, -1), False), ((-1, 0), False)):
            bent_pairs = pairs[:2] + ((4, (1, *marks), 3, (1, -1)),) + pairs[2 + (marks == (-1, -1)):]
            self.assertIs(answer_truth(self, shows_two, one, other, ("alike", bent_pairs)), right)
        self.assertIs(shows_two(one, other, ("alike", pairs[:2] + ((4, (0, -1, -1), 3, (0, 0)),) + pairs[2:])), False)

    def test_at_random(self):
        chance = random.Random(56)
        seen = {"alike": 0, "early": 0, "late": 0}
        while min(seen.values()) < 60:
            steps = small_form(chance)
            other, surely = other_form(chance, steps)
            oracle = PairOracle(steps, other)
            if max(how_many(made.kinds) for made in oracle.forms) > 1500:
                continue
            found = two_forms(steps, other)
            many = oracle.fewest()
            self.assertEqual(many, None if found[0] == "alike" else len(found[1]), (steps, other))
            self.assertTrue(oracle.shows_two(found), (steps, other, found))
            self.assertTrue(shows_two(steps, other, found))
            if surely:
                self.assertEqual(found[0], "alike", (steps, other))
            turned = two_forms(other, steps)
            self.assertEqual((turned[0], len(turned[1])), (found[0], len(found[1])))
            seen["alike" if many is None else "early" if many < 2 else "late"] += 1
            if many:
                self.assert_looks(steps, other, found[1])

    def assert_looks(self, one, other, answers):
        """Behind all but the last both are read to the same key."""
        for many in range(len(answers)):
            ahead = dict(answers[:many])
            self.assertEqual(read(one, ahead, None, True)[2], ("ask", answers[many][0]))
            self.assertEqual(read(other, ahead, None, True)[2], ("ask", answers[many][0]))


class TestShowsTwo(unittest.TestCase):
    ONE, OTHER = form(AB), form("ask a pick x y / if a is x / ask b pick x y / end / ask c pick x / soft a is x")
    # 0 a, 1 unless, 2 b, 3 c in both
    PAIRS = ((0, (), 0, ()), (2, (), 2, (0,)), (3, (), 3, (0,)), (3, (), 3, (1,)))

    def assert_shows(self, one, other, *things):
        for thing in things:
            self.assertTrue(answer_truth(self, shows_two, one, other, thing), thing)

    def assert_none(self, one, other, *things):
        for thing in things:
            self.assertFalse(answer_truth(self, shows_two, one, other, thing), thing)

    def test_alike_with_pairs(self):
        steps = form(LIKE[0])
        # 0 a, 1 hard, 2 b, 3 soft, 4 c
        pairs = two_forms(steps, steps)[1]
        self.assertTrue(alike(pairs, doubled(((0, ()), (2, ()), (4, ())))))
        word = "alike"
        self.assert_shows(steps, steps, (word, pairs))
        self.assert_none(steps, steps, (word, pairs[1:]), (word, pairs[:2]), (word, (pairs[0], pairs[2])), (word, ()), (word, pairs[::-1]), (word, pairs + pairs[2:]), (word, list(pairs)), [word, pairs],
                         (word,), (word, pairs, ()), pairs, word, ("parted", pairs), ("Alike", pairs), (pairs, word), (word, pairs + ((5, (), 5, ()),)), (word, tuple(list(pair) for pair in pairs)),
                         (word, ((False, (), 0, ()),) + pairs[1:]), (word, ((0, (), 0),) + pairs[1:]), (word, ((0, (), 0, (), 0),) + pairs[1:]), (word, (((0, ()), (0, ())),) + pairs[1:]), (word, (None,)))
        self.assert_none(steps, steps, (word, pairs[:1] + ((0, (), 2, ()),) + pairs[1:]), (word, pairs[:1] + ((1, (), 1, ()),) + pairs[1:]), (word, ((-1, (), 0, ()),) + pairs))

    def test_more_pairs(self):
        one = form("ask a pick x y / ask b pick x y / ask c pick x / soft ( a is x or b is x )")
        # 0 a, 1 b, 2 c
        pairs = two_forms(one, one)[1]
        self.assertEqual(len(pairs), 7)
        # A pair whose states speak of other answers is one, but where both come to look unlike it has no place.
        for more, right in (((2, (-1, 0), 2, (0, 1)), True), ((2, (1, 1), 2, (1, -1)), True), ((2, (1, 1), 2, (1, 0)), False), ((1, (-1,), 1, (-1,)), False), ((2, (0, 0), 2, (0, 2)), False),
                            ((2, (0, 0), 2, (0, -2)), False), ((2, (0, 0), 2, (0, True)), False), ((2, (0, 0), 1, (0,)), False)):
            self.assertIs(answer_truth(self, shows_two, one, one, ("alike", tuple(sorted([*pairs, more])))), right, more)
        self.assert_shows(one, one, ("alike", tuple(sorted([*pairs, (1, (-1,), 1, (-1,)), (2, (-1, 0), 2, (-1, 0)), (2, (-1, 1), 2, (-1, 1))]))))

    def test_of_forms_that_part(self):
        self.assertEqual(two_forms(self.ONE, self.OTHER), ("parted", ((("a", 0), "y"), (("c", 0), "x")), (self.PAIRS[:1], (self.PAIRS[1], self.PAIRS[3]))))
        self.assert_none(self.ONE, self.OTHER, ("alike", self.PAIRS), ("alike", self.PAIRS[:3]), ("alike", self.PAIRS[:2]), ("alike", ()))
        one = form("ask a pick x")
        self.assert_none(one, (), ("alike", ()), ("alike", ((0, (), 0, ()),)))
        self.assert_none((), one, ("alike", ()))
        self.assert_shows(one, (), ("parted", (), ()))
        self.assert_none((), (), ("parted", (), ()))
        self.assert_none(one, one, ("parted", (), ()), ("parted", ((("a", 0), "x"),), (((0, (), 0, ()),),)))

    def test_other_answers(self):
        layers = (self.PAIRS[:1], (self.PAIRS[1], self.PAIRS[3]))
        for text, right in (("a=y c=x", True), ("a=x c=x", False), ("a=x b=x", False), ("a=y", False), ("c=x a=y", False), ("a=z c=x", False), ("a=y b=x", False), ("", False), ("a=y c=x b=x", False)):
            self.assertIs(answer_truth(self, shows_two, self.ONE, self.OTHER, ("parted", pairs_of(text), layers)), right, text)
        for answers in (((("a", False), "y"), (("c", 0), "x")), [(("a", 0), "y"), (("c", 0), "x")], ([("a", 0), "y"], (("c", 0), "x")), ((("a", 0), "y"), (("c", 0), ["x"])), ((("a", 0), "y"), None),
                        ((("a", 0), "y"), (("c", 0), "x", 0)), None, "ac", {("a", 0): "y", ("c", 0): "x"}, ((("a", 0), "y"), (["c"], "x")), ((("a", 0), "y"), (("a", 0), "y"))):
            self.assert_none(self.ONE, self.OTHER, ("parted", answers, layers))

    def test_answers_behind_both_ends(self):
        one, other = form("ask a pick x y"), form("ask a pick x y / if a is y / ask b pick x / end")
        first = ((0, (), 0, ()),)
        self.assert_shows(one, other, ("parted", pairs_of("a=y"), (first,)))
        for text, many in (("a=x b=x", 2), ("a=x c=x", 2), ("a=y b=x", 2), ("a=x b=x c=x", 3)):
            self.assert_none(one, other, ("parted", pairs_of(text), (first,) * many), ("parted", pairs_of(text), (first, *[()] * (many - 1))))

    def test_not_the_fewest(self):
        # By a=x b=.. it takes one answer more.
        one, other = form(AB), form(AB + " / hard ( a is x and a is y )")
        pairs = ((0, (), 0, ()), (2, (), 2, (0,)), (3, (), 3, (0,)), (3, (), 3, (1,)))
        self.assert_none(one, other, ("parted", pairs_of("a=x b=x c=x"), (pairs[:1], (pairs[1], pairs[3]), (pairs[2],))), ("parted", pairs_of("a=x b=x c=x"), (pairs[:1], (pairs[1],), (pairs[2],))))
        self.assert_shows(one, other, ("parted", pairs_of("a=y c=x"), (pairs[:1], (pairs[1], pairs[3]))), ("parted", pairs_of("a=y c=x"), (pairs[:1], (pairs[1], pairs[2], pairs[3]))))

    def test_bent_layers(self):
        answers, layers = pairs_of("a=y c=x"), (self.PAIRS[:1], (self.PAIRS[1], self.PAIRS[3]))
        self.assert_shows(self.ONE, self.OTHER, ("parted", answers, layers), ("parted", answers, (layers[0], self.PAIRS[1:])), ("parted", answers, (layers[0], self.PAIRS)))
        for broken in broken_layers(layers, (False, (), 0, ())):
            self.assert_none(self.ONE, self.OTHER, ("parted", answers, broken))
        self.assert_none(self.ONE, self.OTHER, ("parted", answers, (layers[0] + layers[1], layers[1])))
        self.assert_none(self.ONE, self.OTHER, ["parted", answers, layers], ("parted", answers), ("parted", layers, answers), ("parted", answers, layers, ()), ("alike", answers, layers), ("never", layers[0]))

    def test_of_anything_a_truth_is_told(self):
        for thing in THINGS:
            for one, other in ((self.ONE, self.OTHER), (self.ONE, self.ONE), (self.ONE, ())):
                self.assert_none(one, other, thing, ("alike", thing), ("parted", thing, thing) if not alike(thing, ()) else None, ("parted", (), thing) if not alike(thing, ()) else None, (thing, ()), (thing, (), ()))

    def test_bent_at_random(self):
        chance = random.Random(57)
        seen = {}
        for _ in range(110):
            steps = small_form(chance, 10)
            other, _ = other_form(chance, steps)
            if width_of(other) > 300:
                continue
            oracle = PairOracle(steps, other)
            told = two_forms(steps, other)
            for _ in range(25):
                thing = chance.choice((bent(chance, told), bent(chance, bent(chance, told)), with_more(chance, oracle, told)))
                wanted = oracle.shows_two(thing)
                self.assertIs(answer_truth(self, shows_two, steps, other, thing), wanted, (steps, other, thing))
                seen[wanted, told[0]] = seen.get((wanted, told[0]), 0) + 1
        self.assertEqual(len(seen), 4)
        self.assertGreater(min(seen.values()), 40, seen)


def with_more(chance, oracle, told):
    """What is told, with a pair more in the table or in a layer, closed or not."""
    both = [key for key in oracle.sorts if key in oracle.forms[0].asked]
    if not both:
        return told
    key = chance.choice(both)
    more = ()
    marks = {one: chance.randrange(-1, len(oracle.sorts[one])) for one in oracle.sorts}
    for made in oracle.forms:
        at = made.asked[key]
        more += (at, tuple(marks.get(one, -1) for one in made.lives[at]))
    return with_node(chance, told, more)


class TestRefusals(unittest.TestCase):
    def test_no_form_the_first_first(self):
        some = form("ask a pick x")
        for thing in [*THINGS, form("hard a is x"), list(STEPS)]:
            if not alike(thing, ()):
                for other in (some, (), None, thing):
                    refuse_form(self, -1, two_forms, thing, other)
                    refuse_form(self, -1, two_forms, other, thing)
                    refuse_form(self, -1, shows_two, thing, other, None)
                    refuse_form(self, -1, shows_two, other, thing, None)

    def test_joint_widths(self):
        # 10 * 10 * 20 and 3 * 23 * 29 together, each form alone parts less.
        def form_of(cuts):
            return form(" / ".join(f"ask {name} count 0 99" for name in "abc") + "".join(" / soft " + joint([f"{name} from {k}" for k in range(*cut)]) for name, cut in zip("abc", cuts) if cut[0] < cut[1]))
        one, other = form_of(((1, 5), (1, 6), (1, 11))), form_of(((5, 10), (6, 10), (9, 20)))
        self.assertEqual([width_of(steps) for steps in (one, other)], [5 * 6 * 11, 6 * 5 * 12])
        found = two_forms(one, other)
        self.assertEqual((found[0], len(found[1]), [len(layer) for layer in found[2]]), ("parted", 3, [1, 10, 100]))
        self.assertIs(shows_two(one, other, found), True)
        one, other = form_of(((1, 3), (1, 12), (1, 16))), form_of(((1, 1), (12, 23), (16, 29)))
        for call, rest in ((two_forms, ()), (shows_two, (None,)), (shows_two, (("parted", (), ()),))):
            refuse(self, TooWide, call, one, other, *rest)
            refuse(self, TooWide, call, other, one, *rest)

    def test_too_wide_alone_but_not_together(self):
        one, other = wide("abcd", 10), wide("efgh", 10)
        self.assertEqual(width_of(one), 10000)
        self.assertTrue(alike(two_forms(one, other), ("parted", (), ())))
        self.assertTrue(alike(two_forms(one, ()), ("parted", (), ())))
        self.assertIs(shows_two(one, other, ("parted", (), ())), True)
        # Of another kind they are not counted either.
        kinds = form("ask x pick x / ask a count 0 98 / ask b count 0 98 / ask c count 0 98 / ask d count 0 99 / soft d from 5")
        ahead = (("ask", "x", ("pick", ("x",))), *one)
        found = two_forms(ahead, kinds)
        self.assertTrue(alike(found, ("parted", ((("x", 0), "x"),), (((0, (), 0, ()),),))), found)
        refuse(self, TooWide, two_forms, one, one)
        refuse(self, TooWide, shows_two, one, one, None)

    def test_wide_forms_in_few_seconds(self):
        rows = [f"ask {name} pick x y" for name in "abcdefghij"] + [f"ask z{name} pick x" for name in "abcdefghijklmnopqrst"]
        one = form(" / ".join([*rows, "hard " + joint([f"{name} is x" for name in "abcdefghij"])]))
        other = form(" / ".join([*rows, "hard not " + joint([f"{name} is y" for name in "abcdefghij"])]))
        self.assertEqual(width_of(one), 1024)
        found = two_forms(one, one)
        self.assertEqual((found[0], len(found[1])), ("alike", 1023 + 1024 * 20))
        self.assertIs(shows_two(one, one, found), True)
        found = two_forms(one, other)
        self.assertEqual((found[0], len(found[1]), len(found[2][-1])), ("parted", 30, 1024))
        self.assertIs(shows_two(one, other, found), True)
