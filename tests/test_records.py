import copy
import random
import unittest

from askround.asking.plain import read
from askround.errors import NoRound
from askround.forms.trees import is_form
from askround.tables.records import are_lines, are_records
from tests import made_rows
from tests.bends import bent
from tests.chance import random_answers, random_form
from tests.support import THINGS, alike, answer_truth, nots, refuse, refuse_form, shared
from tests.test_changes import NO_FORMS
from tests.test_plain import answers_of
from tests.trees import condition, form

STEPS = form("ask a pick x y / if a is x / ask b some x y / end / soft a is x / ask n count 0 2 / hard n to 1 / each r n / ask c pick x y / soft c is x / end")
LINED = form(
    "ask a pick x y / ask b some x y / ask n count 0 2 / part p / each r n / ask c pick x y / if c is x / ask d some x y / part q / ask e count 0 9 / end / end / end / ask f pick x y / end"
    " / each s n / ask g pick x y / end / ask h count 0 9"
)
NO_ROUNDS = ("", "z", "a", "n", "p", "R", "is", 0, 1, True, False, (), ("r",), ["r"], {}, {"r": 0}, ("r", 0), "r ", "rr")


def records(*texts):
    return tuple(answers_of(text) for text in texts)


class TestRecords(unittest.TestCase):
    def assert_records(self, *things, steps=STEPS):
        self.assertTrue(is_form(steps))
        for thing in things:
            self.assertTrue(answer_truth(self, are_records, steps, thing), thing)

    def assert_none(self, *things, steps=STEPS):
        for thing in things:
            self.assertFalse(answer_truth(self, are_records, steps, thing), thing)

    def test_none_one_more(self):
        self.assert_records((), records("a=x b=+ n=0"), records("a=y n=0"), records("a=x b=+y n=1 c1=x"), records("a=x b=+ n=0", "a=y n=0", "a=y n=1 c1=y", "a=y n=0"))

    def test_how_many(self):
        for record in records("a=x b=+ n=0", "a=y n=0"):
            self.assert_records(*[(record,) * many for many in (1, 2, 39, 40)])
            self.assert_none(*[(record,) * many for many in (41, 42, 80, 1000)])

    def test_of_the_empty_form(self):
        self.assert_records((), ({},), ({},) * 40, records("a=x"), ({0: []},), ({(): {}},), steps=())
        self.assert_none(({},) * 41, [{}], {}, ((),), ([],), (None,), steps=())

    def test_short_of_an_end(self):
        self.assert_none(records(""), records("a=x"), records("a=x n=0"), records("b=+x n=0"), records("a=y n=1"), records("a=y n=1 c2=x"), records("a=x b=+ n=0", "a=x"), records("a=x", "a=x b=+ n=0"))

    def test_stopped_by_a_hard(self):
        self.assert_none(records("a=y n=2"), records("a=y n=2 c1=x c2=x"), records("a=y n=0", "a=y n=2 c1=x c2=x"))

    def test_softs_are_let(self):
        self.assert_records(records("a=y n=0"), records("a=y n=1 c1=y"), records("a=x b=+ n=1 c1=y"))

    def test_answers_more_than_are_taken(self):
        self.assert_records(records("a=y b=+x n=0 c1=x c2=y"), records("a=y n=0 z=x a1=x r=x"))

    def test_what_is_no_key_or_no_value_counts_for_nothing(self):
        full = answers_of("a=y n=0")
        self.assert_records(*[({**full, key: "x"},) for key in (("a", 1), ("z", 0), ("r", 0), "a", 0, None, (), ("a",), ("a", 0, 0), ("A", 0), (("a", 0),), True)])
        self.assert_records(*[({**full, ("b", 0): value, ("c", 1): value},) for value in ("x", None, [], {}, True, ("y", "x"), [["x"]])])
        self.assert_none(*[({("a", 0): value, ("n", 0): 0},) for value in ("z", None, 0, True, ("y",), ["y"], {}, "")])
        self.assert_none(*[({("a", 0): "y", ("n", 0): value},) for value in (False, True, "0", None, (0,), -1, 3, [])])
        self.assert_none(({("a", False): "y", ("n", 0): 0},), ({("a", 0): "y", ("n", False): 0},), ({("a", 0): "y", ("n", 0): 1, ("c", True): "x"},))

    def test_of_anything_a_truth_is_told(self):
        for thing in THINGS:
            self.assertIs(answer_truth(self, are_records, STEPS, thing), alike(thing, ()))
            if not alike(thing, {}):
                self.assert_none((thing,), (answers_of("a=y n=0"), thing), (thing, answers_of("a=y n=0")))
            self.assert_none([thing], {"a": thing})
        full = records("a=y n=0")
        self.assert_none(list(full), full[0], {0: full[0]}, tuple(full[0].items()), (tuple(full[0].items()),), (list(full[0].items()),), (full,), None, "", 0, True)

    def test_no_form(self):
        for thing in [*THINGS, *NO_FORMS]:
            if not alike(thing, ()):
                for told in ((), records("a=x"), None, [], ({},)):
                    refuse_form(self, -1, are_records, thing, told)

    def test_at_random(self):
        chance = random.Random(107)
        seen = {True: 0, False: 0}
        while min(seen.values()) < 150:
            steps = random_form(chance, chance.randrange(3, 12))
            keys = made_rows.keys_asked(steps)
            found = tuple(random_answers(chance, keys, chance.choice((1, 1, 0.8))) for _ in range(chance.randrange(1, 4)))
            right = all(made_rows.run(steps, record, (), True)[2] == ("end",) for record in found)
            self.assertIs(answer_truth(self, are_records, steps, found), right)
            seen[right] += 1
            other = bent(chance, found)
            if type(other) is tuple and len(other) == len(found) and all(type(record) is dict for record in other):
                right = all(read(steps, record, None, True)[2] == ("end",) for record in other)
                self.assertIs(answer_truth(self, are_records, steps, other), right)
            else:
                answer_truth(self, are_records, steps, other)


class TestLines(unittest.TestCase):
    def assert_lines(self, *texts, over=None, steps=LINED):
        self.assert_all(True, texts, over, steps)

    def assert_none(self, *texts, over=None, steps=LINED):
        self.assert_all(False, texts, over, steps)

    def assert_all(self, right, texts, over, steps):
        self.assertTrue(is_form(steps))
        for text in texts:
            lines = tuple(condition(part) for part in text.split(" / ")) if isinstance(text, str) else text
            kept = copy.deepcopy((steps, lines))
            self.assertIs(answer_truth(self, are_lines, steps, lines, over), right, (text, over))
            self.assertIs(are_lines(steps, lines, over=over), right)
            if over is None:
                self.assertIs(are_lines(steps, lines), right)
            self.assertTrue(alike(kept, (steps, lines)))

    def test_one_to_eight(self):
        line = condition("a is x")
        for many in range(1, 9):
            self.assert_lines((line,) * many)
            self.assert_lines((line,) * many, over="r")
        for many in (0, 9, 10, 100):
            self.assert_none((line,) * many)
            self.assert_none((line,) * many, over="r")
        self.assert_lines("a is x / not a is x", "a is x / a is x", "a is x / b has x / h from 3 / h to 3 / n to 2 / f is x / not ( a is x and b has y ) / any r c is x")
        self.assert_none("a is x / z is x", "z is x / a is x", "a is x / a is x / c is x")

    def test_over_no_round(self):
        self.assert_lines("a is y", "b has y", "n from 0", "n to 1000000", "f is x", "h from 9", "any r c is x", "every r d has y", "any s g is x", "every s not ( g is x or a is x )", "any r e from 1000000", "( any r c is x and every s g is y )", "any r n from 1")
        self.assert_none("c is x", "g is x", "e to 3", "any r g is x", "every s c is x", "any z a is x", "any p a is x", "any a a is x", "any n a is x", "( any r c is x and c is x )", "any s z is x")

    def test_of_kinds_and_options_of_theirs(self):
        self.assert_none("a is z", "b has z", "a has x", "b is x", "h is x", "a from 0", "b to 1", "n has x", "p is x", "r is x", "any r c has x", "any r c is z", "any r d is x")

    def test_over_a_round(self):
        for over in ("r", "s"):
            self.assert_lines("a is y", "b has y", "n from 0", "not a is x", over=over)
            self.assert_none("z is x", "any r c is x", "every s g is x", "any r a is x", "every s n from 0", "not any r a is x", over=over)
        self.assert_lines("c is x", "d has y", "e from 3", "( c is x and a is x )", "c is x / d has x / a is y", over="r")
        self.assert_lines("g is x", "f is y", "( g is x or f is x )", over="s")
        # Of another round, and of rows behind it.
        self.assert_none("f is x", "g is x", "h from 0", "c is x / g is x", "c is z", "d is x", over="r")
        self.assert_none("c is x", "e from 0", "h from 0", "g is z", "g has x", over="s")

    def test_of_small_forms(self):
        self.assert_none("a is x", steps=())
        rounds = form("ask n count 0 0 / each r n / end / ask a pick x")
        self.assert_lines("a is x", "n to 0", "any r n to 0", "every r a is x", steps=rounds)
        self.assert_lines("n to 0", over="r", steps=rounds)
        self.assert_none("a is x", over="r", steps=rounds)
        within = form("ask n count 0 2 / if n from 1 / ask a pick x / each r n / ask b pick x / end / ask c pick x / else / ask d pick x / end / ask e pick x")
        self.assert_lines("a is x", "b is x", "n to 0", over="r", steps=within)
        self.assert_none("c is x", "d is x", "e is x", over="r", steps=within)
        self.assert_lines("a is x", "any r b is x", "any r e is x", "c is x", "d is x", "e is x", steps=within)

    def test_a_form_without_room_for_another_step(self):
        # What a last check could have is told of its condition alone.
        sixty = form(" / ".join(["ask n count 0 1", "each r n", "ask a pick x", "end", *["hard n to 1"] * 57]))
        self.assert_lines("n to 1", "any r a is x", steps=sixty)
        self.assert_lines("a is x", over="r", steps=sixty)
        deep = form("ask n count 0 1 / part a / part b / part c / part d / each r n / end / end / end / end / end")
        self.assert_lines("n to 1", over="r", steps=deep)

    def test_deep_and_many(self):
        self.assert_lines((nots(5, condition("a is x")),), (shared(2)[:1] + ((condition("a is x"),) * 6,),))
        self.assert_none((nots(6, condition("a is x")),), (shared(2),))
        thirty = ("and", (("and", (condition("a is x"),) * 6),) * 5)
        self.assert_lines((thirty,), (thirty,) * 8)
        self.assert_none((("not", ("and", (thirty, condition("a is x")))),))

    def test_of_anything_a_truth_is_told(self):
        line = condition("a is x")
        for over in (None, "r"):
            wrong = [line, [line], (line, [line]), {0: line}, (list(line),), "a is x", ("a is x",), ((line,),), (line, None), None]
            for thing in THINGS:
                wrong += [thing, (thing,), (line, thing), (thing, line), [thing]]
            for thing in wrong:
                self.assertFalse(answer_truth(self, are_lines, LINED, thing, over), thing)

    def test_refusals_in_their_order(self):
        lines = (condition("a is x"),)
        for thing in [*THINGS, *NO_FORMS]:
            if not alike(thing, ()):
                for told in (lines, None, ()):
                    for over in (None, "r", "z", []):
                        refuse_form(self, -1, are_lines, thing, told, over)
        for over in [*NO_ROUNDS, *THINGS]:
            if over is not None:
                for told in (lines, None, ()):
                    refuse(self, NoRound, are_lines, LINED, told, over)
                    refuse(self, NoRound, are_lines, (), told, over)

    def test_as_a_last_check_at_random(self):
        chance = random.Random(108)
        seen = {(right, bool(over)): 0 for right in (True, False) for over in (True, False)}
        while min(seen.values()) < 150:
            steps, other = random_form(chance, chance.randrange(4, 16)), random_form(chance, 8)
            lines = [found for found in conditions_in(steps) if chance.random() < 0.5][:8] + conditions_in(other)[:chance.choice((0, 0, 0, 1))]
            if not lines or len(lines) > 8:
                continue
            for over in (None, *rounds_in(steps)):
                right = all(is_form(with_last(steps, over, ("soft", line))) for line in lines)
                self.assertIs(answer_truth(self, are_lines, steps, tuple(lines), over), right)
                seen[(right, over is not None)] += 1


def conditions_in(steps):
    found = []
    for step in steps:
        if step[0] in ("if", "leave", "hard", "soft"):
            found.append(step[2] if step[0] == "leave" else step[1])
        for part in steps_of(step):
            found.extend(conditions_in(part))
    return found


def steps_of(step):
    return step[2:] if step[0] == "if" else step[-1:] if step[0] in ("part", "each") else ()


def rounds_in(steps):
    return [step[1] for step in steps if step[0] == "each"] + [name for step in steps for part in steps_of(step) for name in rounds_in(part)]


def with_last(steps, over, check):
    """The steps with a check behind all, or behind all of a round."""
    if over is None:
        return (*steps, check)
    made = []
    for step in steps:
        if step[:2] == ("each", over):
            step = (*step[:3], (*step[3], check))
        elif step[0] == "if":
            step = (*step[:2], *[with_last(part, over, check) if over in rounds_in(part) else part for part in step[2:]])
        elif step[0] == "part" and over in rounds_in(step[2]):
            step = (*step[:2], with_last(step[2], over, check))
        made.append(step)
    return tuple(made)
