import copy
import itertools
import unittest

from askround.errors import NoCondition
from askround.words.conditions import condition_text, holds, is_condition, read_condition
from askround.words.kinds import WORDS
from tests.support import THINGS, TOP, alike, answer_truth, nots, refuse

A = ("is", "a", "x")
B = ("has", "b", "y")
C = ("from", "c", 3)
D = ("to", "c", 5)


def group(word, many, part=A):
    return (word, (part,) * many)


GOOD = [
    A, B, C, D, ("is", "a", "a"), ("from", "a", 0), ("to", "abcdefgh", 10 ** 6), ("from", "a", 10 ** 6), ("to", "a", 0),
    ("not", A), ("and", (A, B)), ("or", (A, A)), ("and", (A, B, C, D, A, B)), ("or", (A, B, C, D, A, B)),
    ("any", "r", A), ("every", "r", B), ("any", "a", A), ("not", ("any", "r", ("not", A))), ("any", "r", ("and", (A, B))),
    ("and", (("any", "r", A), ("every", "r", B), ("any", "s", C))), ("or", (("not", A), ("and", (B, C)))),
    nots(5, A), ("any", "r", nots(4, A)), nots(4, ("every", "r", A)), ("and", (nots(4, A), A)), nots(4, ("or", (A, B))),
    group("and", 5, group("or", 6)), group("or", 6, group("and", 5)), ("and", (group("or", 6),) * 4 + (group("or", 6),)),
    ("or", (group("and", 6), group("and", 6), group("and", 6), group("and", 6), group("and", 5), A)),
    ("and", (("or", (A, ("and", (B, ("or", (C, ("and", (D, A)))))))), B)),
]
BAD = [
    (), ("is",), ("is", "a"), ("is", "a", "x", "y"), ["is", "a", "x"], ("is", "a", 1), ("is", "a", ("x",)), ("is", "is", "x"),
    ("is", "a", "is"), ("is", "A", "x"), ("is", "a", ""), ("is", "", "x"), ("is", "abcdefghi", "x"), ("is", "a", "abcdefghi"),
    ("is", 0, "x"), ("is", "a", None), ("has", "a", "not"), ("has", "every", "a"), ("has", "a", ()), ("has", "a", 0), ("has", "a"),
    ("from", "a", -1), ("from", "a", 10 ** 6 + 1), ("from", "a", TOP), ("from", "a", True), ("from", "a", False), ("from", "a", "1"),
    ("from", "from", 1), ("from", "a", None), ("from", "a"), ("from", "a", 1, 2), ("to", "a", -1), ("to", "a", 10 ** 6 + 1),
    ("to", "a", True), ("to", "to", 0), ("to", "a", "x"), ("to", ("a", 0), 1), ("in", "a", "x"), ("a", "is", "x"),
    ("not",), ("not", ()), ("not", A, A), ["not", A], ("not", list(A)), ("not", "a"), ("not", (A,)), ("Not", A),
    ("and",), ("and", ()), ("and", (A,)), ("and", A), ("and", [A, B]), ("and", A, B), group("and", 7), group("and", 1),
    ("or", ()), ("or", (A,)), ("or", [A, B]), group("or", 7), group("or", 1), ("and", (A, None)), ("or", (A, B, ("not",))),
    ("and", (A, ["is", "a", "x"])), ("xor", (A, B)), ("and", (A, B), "r"),
    ("any", A), ("any", "r"), ("any", "r", A, A), ("any", "r", "a"), ("any", "any", A), ("any", "R", A), ("any", 1, A), ("any", ("r",), A),
    ("every", "is", A), ("every", "r", ()), ("every", "r", (A, B)), ("each", "r", A),
    ("any", "r", ("any", "r", A)), ("any", "r", ("every", "s", A)), ("every", "r", ("any", "s", A)), ("every", "r", ("every", "r", A)),
    ("any", "r", ("not", ("any", "s", A))), ("any", "r", ("and", (A, ("every", "s", A)))),
    ("every", "r", ("or", (A, ("and", (B, ("not", ("any", "s", A))))))), ("and", (A, ("any", "r", ("not", ("every", "s", A))))),
    nots(6, A), nots(7, A), ("any", "r", nots(5, A)), nots(5, ("every", "r", A)), nots(5, ("or", (A, B))), ("and", (nots(5, A), A)),
    ("or", (A, nots(5, A))),
    ("or", (group("and", 6), group("and", 6), group("and", 6), group("and", 6), group("and", 6), A)), group("and", 6, group("or", 6)),
    ("and", (group("or", 6),) * 5 + (A,)),
]


class TestConditions(unittest.TestCase):
    def test_conditions(self):
        for thing in GOOD:
            self.assertTrue(answer_truth(self, is_condition, thing), thing)

    def test_other_things(self):
        for thing in BAD:
            self.assertFalse(answer_truth(self, is_condition, thing), thing)
        for word in WORDS:
            self.assertFalse(is_condition(("is", word, "x")))
            self.assertFalse(is_condition(("is", "a", word)))
            self.assertFalse(is_condition(("has", word, "x")))
            self.assertFalse(is_condition(("from", word, 1)))
            self.assertFalse(is_condition(("any", word, A)))
            self.assertFalse(is_condition(("every", word, A)))

    def test_of_anything_a_truth_is_told(self):
        for thing in THINGS:
            self.assertFalse(answer_truth(self, is_condition, thing))

    def test_what_is_none_is_refused(self):
        for thing in [*BAD, *THINGS]:
            refuse(self, NoCondition, condition_text, thing)
            refuse(self, NoCondition, holds, thing, {})
            refuse(self, NoCondition, holds, thing, {("a", 0): "x"}, 1, {"r": 2})


class TestTexts(unittest.TestCase):
    def test_written(self):
        for condition, text in (
            (A, "a is x"), (B, "b has y"), (C, "c from 3"), (D, "c to 5"), (("not", A), "not a is x"),
            (("and", (A, B)), "( a is x and b has y )"), (("or", (A, B, C)), "( a is x or b has y or c from 3 )"),
            (("any", "r", A), "any r a is x"), (("every", "r", ("not", A)), "every r not a is x"),
            (("not", ("and", (("or", (A, B)), ("not", C)))), "not ( ( a is x or b has y ) and not c from 3 )"),
            (("and", (("any", "r", ("or", (A, B))), D)), "( any r ( a is x or b has y ) and c to 5 )"),
            (("from", "a", 10 ** 6), "a from 1000000"), (("to", "a", 0), "a to 0"),
        ):
            self.assertEqual(condition_text(condition), text)
            self.assertTrue(alike(read_condition(text), condition))

    def test_there_and_back(self):
        for condition in GOOD:
            self.assertTrue(alike(read_condition(condition_text(condition)), condition))

    def test_other_texts_are_refused(self):
        for text in (
            "", " ", "a", "a is", "a is ", "is", "is a x", "a is x ", " a is x", "a  is x", "a is  x", "a is x y", "a is x\n", "\na is x",
            "a\nis x", "a is not", "is is x", "a is X", "a is 1", "a has 1", "a in x", "a from x", "a from -1", "a from +1", "a from 01",
            "a from 00", "a from 1000001", "a from 99999999", "a from \u0661", "a from \u00b2", "a to", "a to ", "a to 1 ", "a to 1_0",
            "not", "not ", "not a", "not  a is x", "not a is x not", "not not", "Not a is x",
            "( a is x )", "( a is x", "a is x )", "()", "( )", "(a is x and b is y)", "( a is x and )", "( and a is x )",
            "( a is x and b is y", "( a is x b is y )", "( a is x  and b is y )", "( a is x and b is y ) ", "( a is x and b is y ) )",
            "( ( a is x and b is y )", "( a is x and b is y or c is z )", "( a is x or b is y and c is z )", "a is x and b is y",
            "a is x or b is y", "( a is x and and b is y )", "( a is x not b is y )", "( a is x ) and b is y", "( a is x to b is y )",
            "any", "any r", "any r ", "any a is x", "any is a is x", "any r r a is x", "any r any s a is x", "every r not every s a is x",
            "any  r a is x", "any R a is x", "every", "every r a", "every ( a is x and b is y )", "any ( ( a is x and b is y )",
            "not not not not not not a is x", "any r not not not not not a is x", " ".join(["not"] * 1000), " ".join(["("] * 1900),
            " ".join(["any r"] * 700), "( " + " and ".join(["a is x"] * 7) + " )", "( " + " or ".join(["a is x"] * 7) + " )",
            "( " + " and ".join(["( " + " or ".join(["a is x"] * 6) + " )"] * 6) + " )", "a is x and", "( a is x , b is y )",
        ):
            refuse(self, NoCondition, read_condition, text)

    def test_what_is_no_text_is_refused(self):
        for thing in [*THINGS, *GOOD, *BAD]:
            refuse(self, NoCondition, read_condition, thing)

    def test_a_text_that_is_read_is_the_one_written(self):
        words = ["a", "is", "not", "and", "or", "any", "(", ")", "from", "3", "", "\n", "03"]
        for condition in GOOD:
            parts = condition_text(condition).split(" ")
            for at in range(len(parts) + 1):
                for word in words:
                    self.assert_read_or_refused(parts[:at] + [word] + parts[at:])
                    self.assert_read_or_refused(parts[:at] + [word] + parts[at + 1:])
                self.assert_read_or_refused(parts[:at] + parts[at + 1:])

    def test_all_texts_of_few_words(self):
        read = 0
        for many in range(6):
            for parts in itertools.product(["a", "is", "not", "any", "from", "1", "("], repeat=many):
                read += self.assert_read_or_refused(list(parts))
        # Of three words: a is a, a from 1; each of these behind one not, two nots, any a; nothing else.
        self.assertEqual(read, 2 * 4)

    def assert_read_or_refused(self, parts):
        text = " ".join(parts)
        try:
            condition = read_condition(text)
        except NoCondition:
            return 0
        self.assertTrue(is_condition(condition))
        self.assertEqual(condition_text(condition), text)
        return 1


TAKEN = {("a", 0): "x", ("b", 0): ("y", "z"), ("c", 0): 4, ("d", 1): "x", ("d", 2): "w", ("e", 1): (), ("e", 2): ("y",), ("f", 2): 0,
         ("g", 0): "x", ("g", 2): "w", ("h", 0): "x", ("h", 1): 3}


class TestHolds(unittest.TestCase):
    def assert_holds(self, worth, condition, *told, **named):
        kept = copy.deepcopy((TAKEN, told, named))
        found = holds(condition, TAKEN, *told, **named)
        self.assertIs(found, worth, (condition, told, named))
        self.assertEqual((TAKEN, told, named), kept)
        self.assertIs(holds(("not", condition), TAKEN, *told, **named), not worth)

    def test_pieces(self):
        self.assert_holds(True, ("is", "a", "x"))
        self.assert_holds(False, ("is", "a", "w"))
        self.assert_holds(True, ("has", "b", "y"))
        self.assert_holds(True, ("has", "b", "z"))
        self.assert_holds(False, ("has", "b", "x"))
        for number, at_least, at_most in ((3, True, False), (4, True, True), (5, False, True), (0, True, False), (10 ** 6, False, True)):
            self.assert_holds(at_least, ("from", "c", number))
            self.assert_holds(at_most, ("to", "c", number))

    def test_none_taken(self):
        for piece in (("is", "n", "x"), ("has", "n", "x"), ("from", "n", 0), ("to", "n", 10 ** 6)):
            self.assert_holds(False, piece)
            self.assert_holds(False, piece, 3)
            self.assertIs(holds(piece, {}), False)

    def test_answers_of_another_kind(self):
        answers = {"is": ["x"], "has": [("x",)], "from": [0, 7, 10 ** 6], "to": [0, 7, 10 ** 6]}
        others = ["x", "xy", "", "0", (), ("x",), ("x", "y"), (0,), 0, 7, 10 ** 6, True, False, None, ["x"], [], {}, {"x": 1}]
        for word, piece in (("is", ("is", "a", "x")), ("has", ("has", "a", "x")), ("from", ("from", "a", 0)), ("to", ("to", "a", 10 ** 6))):
            for other in others:
                worth = any(alike(other, value) for value in answers[word])
                if word == "has" and other == ("x", "y"):
                    worth = True
                self.assertIs(holds(piece, {("a", 0): other}), worth, (piece, other))

    def test_the_persons_answer_goes_ahead(self):
        self.assert_holds(True, ("is", "g", "x"))
        self.assert_holds(True, ("is", "g", "x"), 1)
        self.assert_holds(False, ("is", "g", "x"), 2)
        self.assert_holds(True, ("is", "g", "w"), 2)
        self.assert_holds(True, ("is", "g", "x"), 3)
        self.assert_holds(False, ("is", "h", "x"), 1)
        self.assert_holds(True, ("from", "h", 3), 1)
        self.assert_holds(True, ("is", "h", "x"), person=2)
        self.assert_holds(False, ("is", "d", "x"))
        self.assert_holds(True, ("is", "d", "x"), 1)
        self.assert_holds(False, ("is", "d", "x"), 2)

    def test_groups(self):
        yes, no = ("is", "a", "x"), ("is", "a", "w")
        for many in range(2, 7):
            for parts in itertools.product((yes, no), repeat=many):
                self.assert_holds(no not in parts, ("and", parts))
                self.assert_holds(yes in parts, ("or", parts))
        self.assert_holds(True, ("and", (yes, ("or", (no, ("not", no))))))

    def test_any_and_every(self):
        is_x = ("is", "d", "x")
        for many, some, each in ((0, False, True), (1, True, True), (2, True, False), (3, True, False), (4, True, False)):
            self.assert_holds(some, ("any", "r", is_x), 0, {"r": many})
            self.assert_holds(each, ("every", "r", is_x), 0, {"r": many})
        self.assert_holds(False, ("any", "r", ("is", "d", "w")), 0, {"r": 1})
        self.assert_holds(True, ("any", "r", ("is", "d", "w")), 0, {"r": 2})
        self.assert_holds(True, ("every", "r", ("or", (is_x, ("is", "d", "w")))), 0, {"r": 2})
        self.assert_holds(True, ("every", "r", ("is", "a", "x")), 0, {"r": 4})
        self.assert_holds(False, ("any", "r", ("and", (is_x, ("has", "e", "y")))), 0, {"r": 4})
        self.assert_holds(True, ("every", "r", ("not", ("and", (is_x, ("has", "e", "y"))))), 0, {"r": 4})
        self.assert_holds(True, ("any", "r", ("not", ("from", "f", 0))), 0, {"r": 1})
        self.assert_holds(True, ("any", "r", ("to", "f", 0)), 0, {"r": 2})

    def test_a_round_that_is_not_there(self):
        self.assert_holds(False, ("any", "r", ("is", "a", "x")))
        self.assert_holds(True, ("every", "r", ("is", "a", "w")))
        self.assert_holds(False, ("any", "r", ("is", "a", "x")), 0, {"s": 4})
        self.assert_holds(True, ("every", "r", ("is", "a", "w")), 1, {"s": 4})
        self.assert_holds(False, ("any", "r", ("is", "a", "x")), folk=None)

    def test_any_goes_over_the_folk_whoever_is_asked_for(self):
        for person in range(5):
            self.assert_holds(False, ("any", "r", ("is", "d", "w")), person, {"r": 1})
            self.assert_holds(True, ("any", "r", ("is", "d", "w")), person, {"r": 2})

    def test_by_place_and_by_name(self):
        piece = ("any", "r", ("is", "d", "w"))
        self.assertIs(holds(piece, TAKEN, 0, {"r": 2}), True)
        self.assertIs(holds(piece, TAKEN, folk={"r": 2}), True)
        self.assertIs(holds(piece, TAKEN, folk={"r": 2}, person=3), True)
        self.assertIs(holds(piece, TAKEN, 3, folk={"r": 2}), True)
        self.assertIs(holds(("is", "d", "w"), TAKEN, person=2), True)
        self.assertIs(holds(("is", "d", "w"), TAKEN), False)
