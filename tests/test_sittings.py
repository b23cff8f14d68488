import copy
import random
import unittest

from askround.asking.hangs import hangs_on
from askround.asking.plain import read
from askround.book.changes import carried
from askround.book.entries import answers_by, is_book, joined, read_by
from askround.book.sittings import Sitting
from askround.errors import AskError, CannotGo, Clash, Full, NoBook, NoCheck, NoEntry, NoForm, NoKey, NoNames, NoValue, Stuck, Twice
from askround.forms.trees import is_form
from tests import made_rows
from tests.chance import other_value, random_book, random_form, random_value
from tests.rewrites import changed
from tests.support import THINGS, TOP, alike, refuse, refuse_form
from tests.test_changes import NO_BOOKS, NO_FORMS, NO_NAMES, names_of
from tests.test_classes import WIDER, wide_form
from tests.test_entries import book, strikes
from tests.test_states import small_form
from tests.trees import form

STEPS = form("ask a pick x y / ask n count 0 2 / soft a is x / each r n / ask b some x y / soft b has x / hard not b has y / end / ask c count 0 9 / hard c to 8")
OTHER = form("ask n count 0 2 / ask a pick x y z / ask d pick x / ask c count 0 9")
NO_MOMENTS = (-1, 10 ** 6 + 1, TOP, -TOP, True, False, None, "0", "", (0,), [], {})
NO_HANDS = ("", "abcdefghi", "A", "a b", "ask", "is", "a1", 0, True, None, ("a",), ["a"], {})
NO_KEYS = (("a", 1), ("b", 0), ("b", 3), ("z", 0), ("r", 0), ("r", 1), ("a", False), ("b", True), ("a", None), ("a", "0"), ("a",), ("a", 0, 0), ["a", 0], "a", 0, None, (), {}, ("A", 0), ("a", 5), ("a", -1))
NO_CHECKS = ((1, 0), (1, 3), (0, 1), (2, 1), (2, 2), (3, 0), (4, 0), (59, 0), (0, 4), (60, 0), (-1, 0), (0, False), (False, 0), (1, True), (0,), (0, 0, 0), [0, 0], 0, None, (), {}, "0", ("a", 0))


def all_of(sitting):
    """All that a sitting tells."""
    return (sitting.form(), sitting.book(), sitting.now(), sitting.answers(), len(sitting))


def put(sitting, entries):
    """Let a sitting take these entries, in their order."""
    for moment, hand, deed in entries:
        if deed[0] == "tell":
            found = sitting.tell(moment, hand, deed[1], deed[2])
        elif deed[0] == "strike":
            found = sitting.strike(moment, hand, deed[1])
        else:
            found = sitting.let(moment, hand, deed[1])
        if found is not None:
            raise AssertionError(found)


def sitting_of(steps, text):
    sitting = Sitting(steps)
    put(sitting, book(text))
    return sitting


class TestSitting(unittest.TestCase):
    def assert_at(self, sitting, steps, entries):
        """All that a sitting tells is what these entries, in any order, say of the form."""
        entries = book(entries) if isinstance(entries, str) else entries
        found = (steps, tuple(sorted(entries, key=lambda entry: entry[:2])), read_by(steps, entries)[2], answers_by(steps, entries), len(entries))
        self.assertTrue(alike(all_of(sitting), found), all_of(sitting))

    def refuse(self, error, sitting, call, *told):
        """Look that a call is refused, and that it changes nothing and isn't undone; tell the error."""
        before = copy.deepcopy(all_of(sitting))
        found = refuse(self, error, call, *told)
        self.assertTrue(alike(all_of(sitting), before))
        return found

    def test_at_first(self):
        self.assert_at(Sitting(STEPS), STEPS, ())
        self.assertTrue(alike(all_of(Sitting(STEPS)), (STEPS, (), ("ask", ("a", 0)), {}, 0)))
        self.assertTrue(alike(all_of(Sitting(())), ((), (), ("end",), {}, 0)))

    def test_no_form(self):
        for thing in [*THINGS, *NO_FORMS]:
            if not alike(thing, ()):
                refuse_form(self, -1, Sitting, thing)

    def test_tell_strike_let(self):
        sitting = Sitting(STEPS)
        self.assertIsNone(sitting.tell(5, "ann", ("a", 0), "y"))
        self.assertTrue(alike(all_of(sitting), (STEPS, ((5, "ann", ("tell", ("a", 0), "y")),), ("ask", ("n", 0)), {("a", 0): "y"}, 1)))
        sitting.tell(6, "bob", ("n", 0), 1)
        self.assertEqual(sitting.now(), ("soft", (0, 0)))
        self.assertIsNone(sitting.let(7, "ann", (0, 0)))
        self.assertEqual(sitting.now(), ("ask", ("b", 1)))
        sitting.tell(0, "z", ("b", 1), ())
        self.assertEqual(sitting.now(), ("soft", (1, 1)))
        sitting.let(9, "ann", (1, 1))
        sitting.tell(8, "ann", ("c", 0), 8)
        self.assertEqual((sitting.now(), len(sitting)), (("end",), 6))
        self.assertIsNone(sitting.strike(9, "bob", ("n", 0)))
        self.assertEqual((sitting.now(), sitting.answers()), (("ask", ("n", 0)), {("a", 0): "y", ("b", 1): (), ("c", 0): 8}))
        self.assertEqual([entry[:2] for entry in sitting.book()], [(0, "z"), (5, "ann"), (6, "bob"), (7, "ann"), (8, "ann"), (9, "ann"), (9, "bob")])
        sitting.tell(10, "a", ("c", 0), 9)
        sitting.tell(9, "c", ("n", 0), 0)
        self.assertEqual(sitting.now(), ("hard", (3, 0)))

    def test_an_earlier_stamp_later(self):
        sitting = sitting_of(STEPS, "a=x a=y")
        sitting.tell(0, "b", ("a", 0), "x")
        self.assertEqual(sitting.answers(), {("a", 0): "y"})
        sitting.strike(0, "c", ("a", 0))
        self.assertEqual(sitting.answers(), {("a", 0): "y"})
        sitting.strike(1, "c", ("a", 0))
        self.assertEqual((sitting.answers(), len(sitting)), ({}, 5))

    def test_deeds_on_what_is_not_taken(self):
        sitting = Sitting(STEPS)
        put(sitting, ((3, "a", ("let", (1, 2))), (2, "a", ("strike", ("b", 2))), (1, "a", ("tell", ("b", 1), ("x", "y"))), (0, "a", ("tell", ("c", 0), 9)), (4, "a", ("let", (0, 0)))))
        self.assertEqual((sitting.now(), len(sitting)), (("ask", ("a", 0)), 5))

    def test_no_entry(self):
        sitting = sitting_of(STEPS, "a=y")
        for moment, hand in [*[(moment, "a") for moment in NO_MOMENTS], *[(0, hand) for hand in NO_HANDS], *[(thing, "a") for thing in THINGS], *[(0, thing) for thing in THINGS]]:
            if (type(moment), type(hand)) == (int, str) and is_book(((moment, hand, ("strike", ("a", 0))),)):
                continue
            # Ahead of all else that is wrong: no key, no value, no check, a stamp that stands.
            for key in (("a", 0), ("z", 0), None):
                self.refuse(NoEntry, sitting, sitting.tell, moment, hand, key, "x")
                self.refuse(NoEntry, sitting, sitting.tell, moment, hand, key, "z")
                self.refuse(NoEntry, sitting, sitting.strike, moment, hand, key)
            for check in ((0, 0), (9, 0), None):
                self.refuse(NoEntry, sitting, sitting.let, moment, hand, check)

    def test_no_key(self):
        sitting = sitting_of(STEPS, "a=y")
        for key in [*NO_KEYS, *[thing for thing in THINGS if not alike(thing, ("a", 0))]]:
            for moment in (0, 1):
                for value in ("x", "z", None):
                    self.refuse(NoKey, sitting, sitting.tell, moment, "a", key, value)
                self.refuse(NoKey, sitting, sitting.strike, moment, "a", key)

    def test_no_value(self):
        sitting = sitting_of(STEPS, "a=y")
        no_values = {("a", 0): ("z", ("x",), 0), ("n", 0): (3, -1, True, False, "1"), ("b", 2): ("x", ("y", "x"), ("x", "x"), ["x"], ("z",)), ("c", 0): (10, False, "3", (3,))}
        for key, values in no_values.items():
            for value in [*values, *[thing for thing in THINGS if not (alike(thing, 0) or alike(thing, 1) or alike(thing, 4) or alike(thing, 5) or alike(thing, ()))]]:
                for moment in (0, 1):
                    self.refuse(NoValue, sitting, sitting.tell, moment, "a", key, value)

    def test_no_check(self):
        sitting = sitting_of(STEPS, "a=y")
        for check in [*NO_CHECKS, *[thing for thing in THINGS if not alike(thing, (0, 0))]]:
            for moment in (0, 1):
                self.refuse(NoCheck, sitting, sitting.let, moment, "a", check)
        for check in ((0, 0), (1, 1), (1, 2)):
            self.assertIsNone(sitting.let(check[1] + 5, "b" if check[0] else "a", check))
        # In a round that no one can be of, there is no person.
        self.refuse(NoCheck, Sitting(STEPS), Sitting(form("ask n count 0 0 / each r n / ask a pick x / soft a is x / end")).let, 0, "a", (0, 1))

    def test_twice(self):
        sitting = sitting_of(STEPS, "a=y n=1 !0")
        for moment in range(3):
            self.refuse(Twice, sitting, sitting.tell, moment, "a", ("a", 0), "y")
            self.refuse(Twice, sitting, sitting.strike, moment, "a", ("c", 0))
            self.refuse(Twice, sitting, sitting.let, moment, "a", (0, 0))
            self.assertIsNone(sitting.tell(moment, "b", ("a", 0), "y"))
        for _ in range(4):
            sitting.back()
        # What is undone doesn't stand any more.
        sitting.strike(2, "a", ("n", 0))
        self.refuse(Twice, sitting, sitting.let, 2, "a", (0, 0))
        sitting.strike(3, "a", ("n", 0))
        sitting.join(((5, "z", ("tell", ("q", 0), "x")),))
        self.refuse(Twice, sitting, sitting.strike, 5, "z", ("n", 0))
        sitting.change(STEPS)
        for moment in (1, 2, 3):
            sitting.let(moment, "a", (0, 0))
        self.refuse(Twice, sitting, sitting.let, 0, "a", (0, 0))
        sitting.let(5, "z", (0, 0))

    def test_full(self):
        sitting = Sitting(STEPS)
        put(sitting, strikes(199))
        sitting.strike(10 ** 6, "z", ("a", 0))
        self.assertEqual(len(sitting), 200)
        for moment in (199, 500):
            self.refuse(Full, sitting, sitting.tell, moment, "a", ("a", 0), "x")
            self.refuse(Full, sitting, sitting.strike, moment, "a", ("a", 0))
            self.refuse(Full, sitting, sitting.let, moment, "a", (0, 0))
        # Twice goes ahead of it, and so does all else.
        self.refuse(Twice, sitting, sitting.strike, 0, "a", ("a", 0))
        self.refuse(Twice, sitting, sitting.tell, 10 ** 6, "z", ("a", 0), "x")
        self.refuse(NoKey, sitting, sitting.strike, 0, "a", ("z", 0))
        self.refuse(NoValue, sitting, sitting.tell, 500, "a", ("a", 0), "z")
        self.refuse(NoCheck, sitting, sitting.let, 500, "a", (9, 0))
        self.refuse(NoEntry, sitting, sitting.let, 500, "A", (9, 0))
        sitting.back()
        sitting.tell(500, "a", ("a", 0), "x")
        self.refuse(Full, sitting, sitting.strike, 501, "a", ("a", 0))
        self.assertEqual(sitting.answers(), {("a", 0): "x"})
        sitting.change(STEPS)
        self.assertEqual(len(sitting), 1)
        sitting.strike(501, "a", ("a", 0))

    def test_join(self):
        sitting = sitting_of(STEPS, "a=y n=1")
        own = book("a=y n=1")
        more = ((0, "b", ("tell", ("zz", 4), ("x", "y"))), (9, "a", ("let", (59, 4))), (1, "a", ("tell", ("n", 0), 1)), (0, "a", ("tell", ("a", 0), "y")))
        self.assertIsNone(sitting.join(more))
        self.assert_at(sitting, STEPS, joined(own, more))
        self.assertEqual(len(sitting), 4)
        for nothing in ((), more, own, sitting.book()):
            sitting.join(nothing)
            self.assert_at(sitting, STEPS, joined(own, more))
        for _ in range(4):
            sitting.back()
            self.assert_at(sitting, STEPS, joined(own, more))
        sitting.back()
        self.assert_at(sitting, STEPS, own)

    def test_join_refuses_as_joined_does(self):
        sitting = sitting_of(STEPS, "a=y n=1")
        for thing in [*THINGS, *NO_BOOKS]:
            if not alike(thing, ()):
                self.refuse(NoBook, sitting, sitting.join, thing)
        for entry in ((0, "a", ("tell", ("a", 0), "x")), (1, "a", ("tell", ("n", 0), 2)), (0, "a", ("strike", ("a", 0))), (1, "a", ("let", (0, 0)))):
            self.refuse(Clash, sitting, sitting.join, (entry,))
            self.refuse(Clash, sitting, sitting.join, ((9, "a", ("let", (0, 0))), entry))
            self.refuse(Clash, sitting, sitting.join, (*strikes(199, 300), entry))
        self.refuse(Full, sitting, sitting.join, strikes(199, 2))
        self.assertIsNone(sitting.join(strikes(198, 2)))
        self.assertEqual(len(sitting), 200)
        self.refuse(Full, sitting, sitting.join, strikes(1, 500))
        sitting.join(strikes(10, 20))

    def test_change(self):
        sitting = sitting_of(STEPS, "a=y n=1 !0 -c b1=+x a=x")
        before = sitting.book()
        self.refuse(CannotGo, sitting, sitting.change, OTHER)
        sitting.back()
        sitting.strike(9, "a", ("b", 1))
        self.assertIsNone(sitting.change(OTHER))
        self.assert_at(sitting, OTHER, ((0, "a", ("tell", ("a", 0), "y")), (1, "a", ("tell", ("n", 0), 1))))
        sitting.tell(2, "a", ("d", 0), "x")
        self.assertEqual(self.refuse(CannotGo, sitting, sitting.change, STEPS).key, ("d", 0))
        sitting.back()
        sitting.back()
        self.assert_at(sitting, STEPS, (*before[:-1], (9, "a", ("strike", ("b", 1)))))
        sitting.change(form("ask a count 0 2 / ask n pick x y / ask b pick x"), names_of("a>n n>a"))
        self.assertEqual(sitting.answers(), {("n", 0): "y", ("a", 0): 1})
        sitting.change(STEPS, names=names_of("a>n n>a"))
        self.assertEqual(sitting.answers(), {("a", 0): "y", ("n", 0): 1})
        self.assertEqual(sitting.form(), STEPS)

    def test_change_refuses_as_carried_does(self):
        sitting = sitting_of(STEPS, "n=1 a=y !0 b1=+x")
        for thing in [*THINGS, *NO_FORMS]:
            if not alike(thing, ()):
                for names in (None, (), NO_NAMES[0]):
                    self.assertEqual(self.refuse(NoForm, sitting, sitting.change, thing, names).row, -1)
        for thing in [*NO_NAMES, *THINGS]:
            if not alike(thing, ()) and thing is not None:
                self.refuse(NoNames, sitting, sitting.change, STEPS, thing)
                self.refuse(NoNames, sitting, sitting.change, (), thing)
        self.assertEqual(self.refuse(CannotGo, sitting, sitting.change, OTHER).key, ("b", 1))
        self.assertEqual(self.refuse(CannotGo, sitting, sitting.change, ()).key, ("a", 0))
        self.assertEqual(self.refuse(CannotGo, sitting, sitting.change, STEPS, names_of("n>z")).key, ("n", 0))

    def test_back_over_each_to_the_beginning(self):
        sitting, trail = Sitting(STEPS), []
        turns = (
            (sitting.tell, 5, "a", ("a", 0), "y"), (sitting.let, 6, "a", (0, 0)), (sitting.join, ()), (sitting.strike, 7, "a", ("b", 1)), (sitting.change, STEPS), (sitting.join, strikes(3)),
            (sitting.join, strikes(2)), (sitting.tell, 9, "a", ("n", 0), 2), (sitting.change, OTHER), (sitting.tell, 0, "a", ("d", 0), "x"), (sitting.change, OTHER, names_of("u>v")), (sitting.join, book("a=z")),
        )
        self.refuse(Stuck, sitting, sitting.back)
        for call, *told in turns:
            trail.append(copy.deepcopy(all_of(sitting)))
            try:
                self.assertIsNone(call(*told))
            except AskError:
                self.assertEqual((call, told), (sitting.join, [book("a=z")]))
                trail.pop()
        self.assertEqual(len(trail), len(turns) - 1)
        while trail:
            self.assertIsNone(sitting.back())
            self.assertTrue(alike(all_of(sitting), trail.pop()))
        for _ in range(2):
            self.refuse(Stuck, sitting, sitting.back)
        sitting.tell(5, "a", ("a", 0), "x")
        sitting.back()
        self.refuse(Stuck, sitting, sitting.back)

    def test_what_is_refused_is_not_undone(self):
        sitting = sitting_of(STEPS, "a=y n=1")
        for call, *told in (
            (sitting.tell, 0, "a", ("a", 0), "x"), (sitting.tell, 9, "a", ("a", 0), "z"), (sitting.strike, 9, "a", ("z", 0)), (sitting.let, 9, "a", (9, 9)), (sitting.join, None),
            (sitting.join, ((0, "a", ("strike", ("a", 0))),)), (sitting.change, ()), (sitting.change, None), (sitting.change, STEPS, 7),
        ):
            with self.assertRaises(AskError):
                call(*told)
        sitting.back()
        self.assert_at(sitting, STEPS, "a=y")
        sitting.back()
        self.assert_at(sitting, STEPS, "")
        self.refuse(Stuck, sitting, sitting.back)

    def test_equal_by_forms_and_entries_alone(self):
        roundabout = sitting_of(STEPS, "a=x")
        roundabout.back()
        roundabout.tell(1, "a", ("n", 0), 1)
        roundabout.change(OTHER)
        roundabout.back()
        roundabout.join(book("a=y n=1"))
        roundabout.join(())
        backwards = Sitting(copy.deepcopy(STEPS))
        put(backwards, book("a=y n=1")[::-1])
        there = Sitting(OTHER)
        put(there, book("a=y n=1"))
        there.change(STEPS)
        for one in (roundabout, backwards, there, sitting_of(STEPS, "a=y n=1")):
            for other in (roundabout, backwards, there, sitting_of(STEPS, "a=y n=1")):
                self.assertIs(one == other, True)
                self.assertIs(one != other, False)

    def test_unequal(self):
        sittings = [
            Sitting(()), Sitting(STEPS), Sitting(OTHER), sitting_of(STEPS, "a=x"), sitting_of(STEPS, "a=y"), sitting_of(STEPS, "-a"), sitting_of(STEPS, "-c"), sitting_of(STEPS, "!0"), sitting_of(STEPS, "c=0"), sitting_of(STEPS, "c=1"),
            sitting_of(STEPS, "a=x a=x"), sitting_of(STEPS, "a=y a=x"), sitting_of(OTHER, "a=x"), sitting_of(form("ask a pick x y"), "a=x"), sitting_of(form("ask a pick y x"), "a=x"), sitting_of(form("ask a pick x y / part p / end"), "a=x"),
            sitting_of(STEPS, "b1=+x"), sitting_of(STEPS, "b1=+"), sitting_of(STEPS, "b2=+"),
        ]
        for moment, hand in ((1, "a"), (0, "b")):
            sittings.append(Sitting(STEPS))
            sittings[-1].tell(moment, hand, ("a", 0), "x")
        for at, one in enumerate(sittings):
            for behind, other in enumerate(sittings):
                self.assertIs(one == other, at == behind, (at, behind))
                self.assertIs(one != other, at != behind)
            for thing in [*THINGS, STEPS, Sitting, one.book(), all_of(one), read]:
                self.assertIs(one == thing, False)
                self.assertIs(thing == one, False)
                self.assertIs(one != thing, True)
                self.assertIs(thing != one, True)

    def test_length_and_truth(self):
        sitting = Sitting(STEPS)
        self.assertEqual((len(sitting), bool(sitting)), (0, False))
        sitting.strike(0, "a", ("a", 0))
        self.assertEqual((len(sitting), bool(sitting)), (1, True))
        sitting.change(STEPS)
        self.assertEqual((len(sitting), bool(sitting)), (0, False))
        sitting.join(strikes(7))
        self.assertEqual((len(sitting), bool(sitting)), (7, True))

    def test_two_do_not_meddle(self):
        one, other = Sitting(STEPS), Sitting(STEPS)
        one.tell(0, "a", ("a", 0), "y")
        self.assert_at(other, STEPS, ())
        other.tell(0, "a", ("a", 0), "x")
        other.change(OTHER)
        self.assert_at(one, STEPS, "a=y")
        one.back()
        self.assert_at(other, OTHER, "a=x")
        refuse(self, Stuck, one.back)
        other.back()
        self.assert_at(other, STEPS, "a=x")

    def test_told_is_the_askers_own(self):
        sitting = sitting_of(STEPS, "a=y n=1")
        sitting.answers().clear()
        sitting.answers()[("a", 0)] = "x"
        self.assert_at(sitting, STEPS, "a=y n=1")
        told = (sitting.form(), sitting.book(), sitting.now(), sitting.answers())
        kept = copy.deepcopy(told)
        sitting.strike(9, "a", ("a", 0))
        sitting.change(OTHER)
        self.assertTrue(alike(told, kept))

    def test_a_wide_form_is_none_of_its_troubles(self):
        steps = wide_form(WIDER)
        sitting = Sitting(steps)
        sitting.tell(0, "a", ("a", 0), 1000)
        sitting.strike(1, "a", ("b", 0))
        sitting.change(steps)
        self.assert_at(sitting, steps, ((0, "a", ("tell", ("a", 0), 1000)),))

    def test_at_random(self):
        chance = random.Random(104)
        seen = {}
        for _ in range(60):
            steps = random_form(chance, chance.randrange(4, 16))
            sitting, model = Sitting(steps), [(steps, {})]
            for _ in range(60):
                word, turned, call = self.any_turn(chance, sitting, *model[-1])
                if isinstance(turned, type):
                    refuse(self, turned, call)
                elif turned is None and len(model) == 1:
                    refuse(self, Stuck, call)
                else:
                    self.assertIsNone(call())
                    model = model[:-1] if turned is None else [*model, turned]
                    word += " done"
                seen[word] = seen.get(word, 0) + 1
                self.assert_at(sitting, model[-1][0], tuple((*stamp, deed) for stamp, deed in model[-1][1].items()))
        for word in ("tell", "strike", "let", "join", "change", "tell done", "strike done", "let done", "join done", "change done", "back done"):
            self.assertGreater(seen.get(word, 0), 12, seen)

    def any_turn(self, chance, sitting, steps, deeds):
        """A turn by chance: its word, the form and the deeds by stamps behind it (None for back, or the error that is due), and the call."""
        kinds = dict(made_rows.keys_asked(steps))
        softs = [check for word, check, _ in made_rows.checks_run(steps) if word == "soft"]
        stamp = (chance.randrange(30), chance.choice("ab"))
        word = chance.choice(("tell", "tell", "tell", "strike", "let", "join", "change", "back"))
        if word == "back":
            return word, None, sitting.back
        if word == "change":
            other = changed(chance, steps) if steps and chance.random() < 0.7 else random_form(chance, 8)
            if not is_form(other):
                return word, NoForm, lambda: sitting.change(other)
            entries = tuple((*one, deed) for one, deed in deeds.items())
            try:
                found = carried(steps, entries, other)
            except CannotGo:
                return word, CannotGo, lambda: sitting.change(other)
            return word, (other, {entry[:2]: entry[2] for entry in found}), lambda: sitting.change(other)
        if word == "join":
            more = random_book(chance, list(kinds.items()) or [(("a", 0), ("pick", ("x",)))], [(0, 0)], chance.randrange(0, 4))
            whole = {**deeds, **{entry[:2]: entry[2] for entry in more}}
            clash = any(entry[:2] in deeds and deeds[entry[:2]] != entry[2] for entry in more)
            return word, Clash if clash else (steps, whole), lambda: sitting.join(more)
        if word == "let":
            check = chance.choice([*softs, *softs, (0, 0), (0, 1), (2, 0)])
            due = NoCheck if check not in softs else Twice if stamp in deeds else (steps, {**deeds, stamp: ("let", check)})
            return word, due, lambda: sitting.let(*stamp, check)
        key = chance.choice([*kinds, *kinds, ("zz", 0)])
        if word == "strike":
            due = NoKey if key not in kinds else Twice if stamp in deeds else (steps, {**deeds, stamp: ("strike", key)})
            return word, due, lambda: sitting.strike(*stamp, key)
        value = "x" if key not in kinds else other_value(chance, kinds[key]) if chance.random() < 0.1 else random_value(chance, kinds[key])
        due = NoKey if key not in kinds else NoValue if not made_rows.is_of(kinds[key], value) else Twice if stamp in deeds else (steps, {**deeds, stamp: ("tell", key, value)})
        return word, due, lambda: sitting.tell(*stamp, key, value)


class TestPutRight(unittest.TestCase):
    def go_on(self, chance, sitting, moment):
        """Answer on, letting softs, until it ends or a hard stops it; the moment behind."""
        kinds = dict(made_rows.keys_asked(sitting.form()))
        while sitting.now()[0] in ("ask", "soft"):
            word, what = sitting.now()
            if word == "ask":
                sitting.tell(moment, "a", what, random_value(chance, kinds[what]))
            else:
                sitting.let(moment, "a", what)
            moment += 1
        return moment

    def taken(self, sitting):
        return read_by(sitting.form(), sitting.book())[0]

    def test_what_is_put_right_hangs(self):
        steps = form("ask a pick x y z / if a is x / ask b pick x y / end / ask n count 0 2 / each r n / ask c pick x y / end / soft not a is y")
        sitting = sitting_of(steps, "a=x b=y n=1 c1=x")
        self.assertEqual(sitting.now(), ("end",))
        sitting.tell(9, "a", ("n", 0), 2)
        self.assertEqual(sitting.now(), ("ask", ("c", 2)))
        sitting.tell(10, "a", ("c", 2), "y")
        self.assertEqual(sitting.now(), ("end",))
        self.assertEqual(hangs_on(steps, ("n", 0)), (("c", 1), ("c", 2)))
        sitting.tell(11, "a", ("a", 0), "y")
        self.assertEqual(sitting.now(), ("soft", (0, 0)))
        sitting.let(12, "a", (0, 0))
        self.assertEqual(sitting.now(), ("end",))
        self.assertEqual(self.taken(sitting), (("a", 0), ("n", 0), ("c", 1), ("c", 2)))
        self.assertEqual(hangs_on(steps, ("a", 0)), (("b", 0),))

    def test_at_random(self):
        chance = random.Random(105)
        many = {"right": 0, "unlike": 0}
        while min(many.values()) < 150:
            steps = small_form(chance, 14)
            sitting = Sitting(steps)
            moment = self.go_on(chance, sitting, 0)
            kinds = dict(made_rows.keys_asked(steps))
            before = self.taken(sitting)
            if sitting.now() != ("end",) or not before:
                continue
            key = chance.choice(before)
            sitting.tell(moment, "b", key, random_value(chance, kinds[key]))
            self.go_on(chance, sitting, moment + 1)
            if sitting.now() != ("end",):
                continue
            unlike = set(before) ^ set(self.taken(sitting))
            self.assertLessEqual(unlike, set(hangs_on(steps, key)))
            many["right"] += 1
            many["unlike"] += len(unlike)
