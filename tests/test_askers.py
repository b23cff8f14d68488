import random
import unittest

from askround.asking.askers import Asker
from askround.asking.plain import read
from askround.errors import NoValue, Stuck
from tests import made_rows
from tests.chance import random_form, random_value
from tests.support import THINGS, alike, refuse, refuse_form
from tests.test_plain import PARTS, ROUND, answers_of
from tests.trees import form

STEPS = form("ask a pick x y / soft a is x / ask n count 0 2 / each r n / ask b some x y / soft b has x / hard not b has y / end / hard a is x / ask c pick x")


def all_of(asker):
    """All that an asker tells."""
    return (asker.now(), asker.taken(), asker.lets(), len(asker))


def asked(steps, *values):
    """An asker that was told these values, None for a let."""
    asker = Asker(steps)
    for value in values:
        if value is None:
            asker.let()
        else:
            asker.tell(value)
    return asker


class TestAsker(unittest.TestCase):
    def assert_at(self, asker, now, taken="", lets=()):
        answers = answers_of(taken)
        found = (now, tuple(answers.items()), lets, len(answers))
        self.assertTrue(alike(all_of(asker), found), all_of(asker))

    def test_on_to_an_end(self):
        asker = Asker(STEPS)
        self.assert_at(asker, ("ask", ("a", 0)))
        self.assertIsNone(asker.tell("x"))
        self.assert_at(asker, ("ask", ("n", 0)), "a=x")
        self.assertIsNone(asker.tell(1))
        self.assert_at(asker, ("ask", ("b", 1)), "a=x n=1")
        self.assertIsNone(asker.tell(()))
        self.assert_at(asker, ("soft", (1, 1)), "a=x n=1 b1=+")
        self.assertIsNone(asker.let())
        self.assert_at(asker, ("ask", ("c", 0)), "a=x n=1 b1=+", ((1, 1),))
        self.assertIsNone(asker.tell("x"))
        self.assert_at(asker, ("end",), "a=x n=1 b1=+ c=x", ((1, 1),))

    def test_on_to_a_hard(self):
        self.assert_at(asked(STEPS, "x", 1, ("x", "y")), ("hard", (2, 1)), "a=x n=1 b1=+x+y")
        self.assert_at(asked(STEPS, "y", None, 0), ("hard", (3, 0)), "a=y n=0", ((0, 0),))
        self.assert_at(asked(ROUND, 2, "y", None, "z", None), ("hard", (1, 2)), "n=2 a1=y a2=z", ((0, 1), (0, 2)))

    def test_of_a_form_that_asks_nothing(self):
        for steps in ((), form("part p / end")):
            self.assert_at(Asker(steps), ("end",))
            self.assertFalse(Asker(steps))
            for call in (Asker(steps).let, Asker(steps).back):
                refuse(self, Stuck, call)
            refuse(self, Stuck, Asker(steps).tell, "x")

    def test_leaps(self):
        asker = asked(PARTS, 8)
        self.assert_at(asker, ("ask", ("e", 0)), "a=8")
        asker.back()
        asker.tell(7)
        asker.tell("x")
        self.assert_at(asker, ("ask", ("d", 0)), "a=7 b=x")

    def test_what_is_no_form_is_refused(self):
        for thing in THINGS:
            if not alike(thing, ()):
                refuse_form(self, -1, Asker, thing)

    def test_tell_refuses_what_is_no_value(self):
        for values, no_values in (((), ("z", 0, ("x",))), (("x",), (3, -1, True, False, "1", 10 ** 40)), (("x", 1), ("x", ("y", "x"), ("x", "x"), ["x"], ("z",)))):
            asker = asked(STEPS, *values)
            before = all_of(asker)
            for value in [*no_values, *THINGS]:
                if not (alike(value, 0) or alike(value, 1) or alike(value, ())):
                    refuse(self, NoValue, asker.tell, value)
                    self.assertTrue(alike(all_of(asker), before))
            self.assertEqual(asker, asked(STEPS, *values))

    def test_tell_is_stuck_where_nothing_is_asked(self):
        for values in (("y",), ("x", 1, ("x", "y")), ("x", 0, "x"), ("x", 1, ())):
            asker = asked(STEPS, *values)
            before = all_of(asker)
            for value in ["x", "y", 0, (), *THINGS]:
                refuse(self, Stuck, asker.tell, value)
            self.assertTrue(alike(all_of(asker), before))
            asker.back()
            self.assertTrue(alike(all_of(asker), all_of(asked(STEPS, *values[:-1]))))

    def test_let_is_stuck_where_it_does_not_stop_by_a_soft(self):
        for values in ((), ("x",), ("y", None), ("x", 1), ("x", 1, ("y",), None), ("x", 0, "x"), ("x", 1, ("x", "y"))):
            asker = asked(STEPS, *values)
            before = all_of(asker)
            refuse(self, Stuck, asker.let)
            refuse(self, Stuck, asker.let)
            self.assertTrue(alike(all_of(asker), before))
            self.assertEqual(asker, asked(STEPS, *values))

    def test_back_over_tellings_and_lettings(self):
        values = ("x", 2, (), None, ("y",), None)
        asker = asked(STEPS, *values)
        for many in range(len(values), 0, -1):
            self.assertTrue(alike(all_of(asker), all_of(asked(STEPS, *values[:many]))))
            self.assertEqual(asker, asked(STEPS, *values[:many]))
            self.assertIsNone(asker.back())
        self.assert_at(asker, ("ask", ("a", 0)))
        refuse(self, Stuck, asker.back)
        refuse(self, Stuck, asker.back)
        self.assert_at(asker, ("ask", ("a", 0)))
        asker.tell("y")
        self.assert_at(asker, ("soft", (0, 0)), "a=y")
        asker.let()
        asker.back()
        self.assert_at(asker, ("soft", (0, 0)), "a=y")
        asker.back()
        refuse(self, Stuck, asker.back)

    def test_on_again_another_way(self):
        asker = asked(STEPS, "x", 2, ("x",))
        asker.back()
        asker.back()
        asker.tell(0)
        asker.tell("x")
        self.assert_at(asker, ("end",), "a=x n=0 c=x")
        self.assertEqual(asker, asked(STEPS, "x", 0, "x"))

    def test_like_by_form_answers_and_lets_alone(self):
        roundabout = asked(STEPS, "y", None, 2)
        for _ in range(3):
            roundabout.back()
        roundabout.tell("x")
        roundabout.tell(1)
        again = form("ask a pick x y / soft a is x / ask n count 0 2 / each r n / ask b some x y / soft b has x / hard not b has y / end / hard a is x / ask c pick x")
        for one, other in ((Asker(STEPS), Asker(STEPS)), (roundabout, asked(STEPS, "x", 1)), (roundabout, asked(again, "x", 1)), (asked((),), Asker(()))):
            self.assertIs(one == other, True)
            self.assertIs(one != other, False)

    def test_unlike(self):
        askers = [
            Asker(()), Asker(STEPS), asked(STEPS, "x"), asked(STEPS, "y"), asked(STEPS, "y", None), asked(STEPS, "x", 0), asked(STEPS, "x", 1), asked(STEPS, "x", 1, ()),
            asked(STEPS, "x", 1, (), None), Asker(ROUND), Asker(form("ask a pick x y")), asked(form("ask a pick x y"), "x"), asked(form("ask a pick x y z"), "x"),
            Asker(form("ask a pick y x")), asked(form("ask b pick x y"), "x"), asked(form("ask a pick x y / soft a is x"), "y"), asked(form("ask a pick x y / soft not a is x"), "y"),
            asked(form("ask a pick x y / soft a is x"), "y", None),
        ]
        for at, one in enumerate(askers):
            for behind, other in enumerate(askers):
                self.assertIs(one == other, at == behind)
                self.assertIs(one != other, at != behind)
            for thing in [*THINGS, STEPS, read, Asker, all_of(one)]:
                self.assertIs(one == thing, False)
                self.assertIs(thing == one, False)
                self.assertIs(one != thing, True)
                self.assertIs(thing != one, True)

    def test_length_and_truth(self):
        asker = Asker(STEPS)
        self.assertEqual((len(asker), bool(asker)), (0, False))
        asker.tell("y")
        self.assertEqual((len(asker), bool(asker)), (1, True))
        asker.let()
        self.assertEqual((len(asker), bool(asker)), (1, True))
        asker.tell(0)
        self.assertEqual((len(asker), bool(asker)), (2, True))
        for _ in range(3):
            asker.back()
        self.assertEqual((len(asker), bool(asker)), (0, False))

    def test_two_askers_of_one_form(self):
        one, other = Asker(STEPS), Asker(STEPS)
        one.tell("y")
        one.let()
        self.assert_at(other, ("ask", ("a", 0)))
        other.tell("x")
        other.tell(2)
        self.assert_at(one, ("ask", ("n", 0)), "a=y", ((0, 0),))
        one.back()
        one.back()
        self.assert_at(other, ("ask", ("b", 1)), "a=x n=2")

    def test_told_before_stays_as_it_was(self):
        asker = asked(STEPS, "y", None)
        now, taken, lets = asker.now(), asker.taken(), asker.lets()
        asker.tell(0)
        for _ in range(3):
            asker.back()
        self.assertEqual((now, taken, lets), (("ask", ("n", 0)), ((("a", 0), "y"),), ((0, 0),)))

    def test_as_the_plain_reading_at_random(self):
        chance = random.Random(43)
        seen = {"back": 0}
        for _ in range(250):
            steps = random_form(chance, chance.randrange(4, 24))
            kinds = dict(made_rows.keys_asked(steps))
            asker, trail = Asker(steps), []
            for _ in range(40):
                answers = {key: value for word, key, value in trail if word == "ask"}
                lets = tuple(key for word, key, value in trail if word == "soft")
                taken, let, then = read(steps, answers, lets)
                self.assertTrue(alike(all_of(asker), (then, tuple(answers.items()), lets, len(answers))))
                self.assertTrue(alike((taken, let), (tuple(answers), lets)))
                seen[then[0]] = seen.get(then[0], 0) + 1
                if trail and (then[0] in ("end", "hard") or chance.random() < 0.2):
                    asker.back()
                    trail.pop()
                    seen["back"] += 1
                elif then[0] == "soft":
                    asker.let()
                    trail.append((*then, None))
                elif then[0] == "ask":
                    value = random_value(chance, kinds[then[1]])
                    asker.tell(value)
                    trail.append((*then, value))
        self.assertGreater(min(seen[word] for word in ("ask", "soft", "hard", "end", "back")), 100, seen)
