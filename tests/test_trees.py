import unittest

from askround.errors import NoForm, NoKey
from askround.forms.texts import form_text, read_form
from askround.forms.trees import asks_of, is_form, keys_of, kind_of
from tests.support import THINGS, TOP, alike, answer_truth, refuse, refuse_form
from tests.trees import form, tree

# Rows that stand, and what is begun and not ended there, for the cases below.
HEAD = """ask a pick x y / ask b some x y / ask c count 0 9 / ask n count 0 4 / ask m count 2 3
each r n / ask ra pick x z / ask rb some y / ask rc count 0 4 / end""".replace("\n", " / ")
MANY = " / ".join(["hard a is x"] * 59)

GOOD = [
    "", "ask a pick x", "ask a pick a", "ask a some x y", "ask a count 0 0",
    "ask a pick x / if a is x / end", "ask a pick x / if a is x / ask b pick x / end",
    "ask a pick x / if a is x / else / ask b pick x / end",
    "ask a pick x / if a is x / ask b pick x / else / ask c pick x / end",
    "ask a pick x / if a is x / ask b pick x / else / hard b is x / end / hard b is x",
    "part p / end", "part p / part q / end / end", "part p / ask a pick p / end / hard a is p",
    "ask n count 0 4 / each r n / end", "ask n count 4 4 / each r n / ask a pick n / end",
    "ask n count 0 0 / each r n / ask a pick x / hard a is x / end / hard any r a is x",
    "ask a pick x / part p / leave p a is x / end", "ask a pick x / part p / part q / leave p a is x / leave q a is x / end / end",
    "ask a pick x / part p / if a is x / leave p a is x / else / leave p a is x / end / end",
    "ask n count 0 3 / part p / each r n / ask a pick x / leave p a is x / end / leave p any r a is x / end",
    "ask n count 0 3 / each r n / part p / ask a pick x / leave p a is x / end / end",
    HEAD, HEAD + " / hard ( a is y and b has x and c from 9 and c to 1000000 )", HEAD + " / soft n from 5",
    HEAD + " / hard any r ( ra is z and rb has y and rc to 0 and a is x and n from 2 )", HEAD + " / hard every r a is x",
    HEAD + " / each s n / ask sa pick x / hard ( sa is x or a is y or n to 1 ) / end / hard every s sa is x / hard any r ra is x",
    HEAD + " / each s m / end / soft ( any r ra is x and every s b has y )",
    HEAD + " / if any r ra is x / ask d pick x / else / hard every r not ra is x / end",
    "ask a pick x / " + MANY, "ask a pick x / if a is x / end / " + " / ".join(["soft a is x"] * 58),
    "ask n count 0 4 / part p / part q / part s / each r n / ask a pick x / end / end / end / end",
    "part a / part b / part c / part d / part e / end / end / end / end / end",
    "part a / part b / part c / part d / ask e pick x / end / end / end / end",
    "ask a count 0 4 / if a from 1 / if a from 2 / if a from 3 / each r a / ask b pick x / end / else / ask c pick x / end / end / end",
]
# A form, and the number of its first row that can't stand.
BAD = [
    ("hard a is x", 0), ("ask a pick x / hard b is x", 1), ("hard a is x / ask a pick x", 0), ("if a is x / ask a pick x / end", 0),
    ("ask a pick x / ask a pick y", 1), ("ask a pick x / part a / end", 1), ("part a / ask a pick x / end", 1), ("part a / end / part a / end", 2),
    ("part a / part a / end / end", 1), ("ask n count 0 1 / each n n / end", 1), ("ask n count 0 1 / part r / end / each r n / end", 3),
    ("ask n count 0 1 / each r n / end / ask r pick x", 3), ("ask n count 0 1 / each r n / ask r pick x / end", 2),
    ("ask n count 0 1 / each r n / part r / end / end", 2), ("ask n count 0 1 / each r n / end / each r n / end", 3),
    ("ask n count 0 1 / each r n / ask n pick x / end", 2),
    ("ask a pick x / if a is x / ask b pick x / else / ask b pick x / end", 4),
    ("ask is pick x", 0), ("ask A pick x", 0), ("ask abcdefghi pick x", 0), ("part end / end", 0), ("ask n count 0 1 / each any n / end", 1),
    ("ask a pick x x", 0), ("ask a pick is", 0), ("ask a count 2 1", 0), ("ask a count 0 1000001", 0), ("ask a pick a b c d e f g", 0),
    # leaves
    ("ask a pick x / leave p a is x", 1), ("ask a pick x / part p / end / leave p a is x", 3), ("ask a pick x / leave p a is x / part p / end", 1),
    ("ask a pick x / part p / leave q a is x / end", 2), ("ask a pick x / part p / part q / end / leave q a is x / end", 4),
    ("ask a count 0 1 / each r a / leave r a from 1 / end", 2), ("ask a pick x / if a is x / leave a a is x / end", 2),
    ("ask a pick x / part p / leave p b is x / end", 2),
    # rounds
    ("each r n / end", 0), ("each r n / end / ask n count 0 1", 0), ("ask n pick x / each r n / end", 1), ("ask n some x / each r n / end", 1),
    ("ask n count 0 5 / each r n / end", 1), ("ask n count 5 5 / each r n / end", 1), ("part n / each r n / end / end", 1),
    ("ask n count 0 1 / each r n / ask a count 0 1 / end / each s a / end", 4), ("ask n count 0 1 / each r n / ask a count 0 1 / each s a / end / end", 3),
    ("ask n count 0 1 / each r n / each s n / end / end", 2), ("ask n count 0 1 / each r n / part p / each s n / end / end / end", 3),
    ("ask n count 0 1 / each r n / if n from 1 / part p / each s n / end / end / end / end", 4), ("ask n count 0 1 / each r r / end", 1),
    # conditions
    (HEAD + " / hard a is z", 10), (HEAD + " / hard a is a", 10), (HEAD + " / hard a has x", 10), (HEAD + " / hard a from 1", 10),
    (HEAD + " / hard a to 1", 10), (HEAD + " / hard b is x", 10), (HEAD + " / hard b has z", 10), (HEAD + " / hard b from 0", 10),
    (HEAD + " / hard c is x", 10), (HEAD + " / hard c has x", 10), (HEAD + " / hard d is x", 10), (HEAD + " / hard r is x", 10),
    (HEAD + " / hard ra is x", 10), (HEAD + " / hard rc from 1", 10), (HEAD + " / hard ( a is x and rb has y )", 10),
    (HEAD + " / hard any s a is x", 10), (HEAD + " / hard any n a is x", 10), (HEAD + " / hard any r ra is y", 10),
    (HEAD + " / hard any r rb is y", 10), (HEAD + " / hard any r ( a is x and d is x )", 10), (HEAD + " / hard not ( a is x or every r b has z )", 10),
    (HEAD + " / each s n / hard ra is x / end", 11), (HEAD + " / each s n / hard any r ra is x / end", 11), (HEAD + " / each s n / hard every r a is x / end", 11),
    (HEAD + " / each s n / ask sa pick x / hard any s sa is x / end", 12), (HEAD + " / each s n / part p / hard every s a is x / end / end", 12),
    (HEAD + " / each s n / ask sa pick x / end / hard any r sa is x", 13), (HEAD + " / each s n / ask sa pick x / end / hard any s ra is x", 13),
    (HEAD + " / each s n / ask sa pick x / end / hard ( any s sa is x and sa is x )", 13), (HEAD + " / each s n / hard sa is x / ask sa pick x / end", 11),
    ("ask n count 0 1 / hard any r n from 1 / each r n / end", 1), ("ask n count 0 1 / each r n / hard any r n from 1 / end", 2),
    ("ask n count 0 1 / if any r n from 1 / each r n / end / end", 1), ("ask n count 0 1 / each r n / if every r n from 1 / end / end", 2),
    ("part p / hard p is x / end", 1), ("ask a pick x / hard not not not not not not a is x", 1),
    # sixty steps, five within one another
    ("ask a pick x / " + MANY + " / hard a is x", 60), ("ask a pick x / " + MANY + " / ask b pick x", 60), ("ask a pick x / " + MANY + " / part b / end", 60),
    ("ask a pick x / part p / " + MANY + " / end", 60), ("ask a pick x / if a is x / else / " + MANY + " / end", 61),
    ("part a / part b / part c / part d / part e / ask f pick x / end / end / end / end / end", 5),
    ("part a / part b / part c / part d / part e / part f / end / end / end / end / end / end", 5),
    ("ask a pick x / if a is x / if a is x / if a is x / if a is x / if a is x / hard a is x / end / end / end / end / end", 6),
    ("ask a pick x / if a is x / if a is x / if a is x / if a is x / if a is x / else / hard a is x / end / end / end / end / end", 7),
    ("ask n count 0 1 / part a / part b / part c / part d / each e n / hard n to 1 / end / end / end / end / end", 6),
]
# Broken rules at the top are broken deep within, too.
DEEP = ("ask dd pick x / part da / if dd is x / else / part db / ", " / end / end / end", 5)


def deepened(rows):
    head, foot, many = DEEP
    return head + rows + foot


class TestForms(unittest.TestCase):
    def assert_form(self, rows):
        found = form(rows)
        self.assertIsNotNone(found, rows)
        self.assertTrue(answer_truth(self, is_form, found), rows)
        text = "\n".join(rows.split(" / ")) if rows else ""
        self.assertEqual(form_text(found), text)
        self.assertTrue(alike(read_form(text), found), rows)

    def assert_none(self, rows, number):
        text = "\n".join(rows.split(" / "))
        refuse_form(self, number, read_form, text)
        # Whatever follows, the row stays the first that can't stand.
        for more in ("\nend", "\n", "\nask q pick x", "\nelse\nelse", "\n%"):
            refuse_form(self, number, read_form, text + more)
        found = tree(text)
        if found is not None:
            self.assert_no_form(found)

    def assert_no_form(self, thing):
        self.assertFalse(answer_truth(self, is_form, thing), thing)
        for call in (form_text, asks_of, keys_of):
            refuse_form(self, -1, call, thing)
        for key in (("a", 0), None, [], {}):
            refuse_form(self, -1, kind_of, thing, key)

    def test_forms(self):
        for rows in GOOD:
            self.assert_form(rows)

    def test_forms_deep_within(self):
        for rows in GOOD:
            if rows and rows.count(" / ") < 20 and "part p" not in rows and "part d" not in rows and rows.count("end / end / end") == 0:
                self.assert_form(deepened(rows))

    def test_broken_rules(self):
        for rows, number in BAD:
            self.assert_none(rows, number)

    def test_broken_rules_deep_within(self):
        for rows, number in BAD:
            if rows.count("part d") == 0 and number < 50 and rows.count("if a is x / if") == 0 and rows.count("/ part p") == 0:
                self.assert_none(deepened(rows), number + DEEP[2])

    def test_what_is_broken_behind_a_form_is_found(self):
        for rows in GOOD:
            if rows and rows.count(" / ") < 55:
                self.assert_none(rows + " / hard unknown is x", rows.count(" / ") + 1)

    def test_of_anything_a_truth_is_told(self):
        for thing in THINGS:
            if alike(thing, ()):
                self.assertTrue(is_form(thing))
            else:
                self.assert_no_form(thing)

    def test_shapes_that_are_none(self):
        ask = ("ask", "a", ("pick", ("x",)))
        is_x = ("is", "a", "x")
        count = ("ask", "n", ("count", 0, 2))
        for steps in (
            ask, [ask], (list(ask),), (("ask", "a"),), ((*ask, ()),), (("ask", "a", ["pick", ("x",)]),), (("ask", "a", ("pick", ["x"])),),
            (("ask", "a", ("count", False, True)),), (("ask", "a", ("count", 0, TOP)),), (("ask", 0, ("pick", ("x",))),),
            (ask, is_x), (ask, ("hard",)), (ask, ("hard", "a", "x")), (ask, ("hard", list(is_x))), (ask, ("hard", is_x, ())), (ask, ("Hard", is_x)),
            (ask, ("soft", ())), (ask, ("if", is_x)), (ask, ("if", is_x, ())), (ask, ("if", is_x, (), (), ())), (ask, ("if", is_x, [], ())),
            (ask, ("if", is_x, (), [])), (ask, ("if", is_x, (), None)), (ask, ("if", is_x, None, ())), (ask, ("if", is_x, ask, ())),
            (ask, ("if", is_x, (), ("hard", is_x))), (ask, ("if", is_x, (), {})), (ask, ("if", is_x, (), False)), (ask, ("if", is_x, (), 0)),
            (("part", "p"),), (("part", "p", ask),), (("part", "p", [ask]),), (("part", "p", (), ()),), (("part", None, ()),),
            (("part", ("p",), ()),), (("part", ["p"], ()),), (ask, ("part", "p", (("leave", "p"),))), (ask, ("part", "p", (("leave", ["p"], is_x),))),
            (ask, ("part", "p", (("leave", "p", list(is_x)),))), (count, ("each", "r", "n")), (count, ("each", "r", "n", [])),
            (count, ("each", "r", ["n"], ())), (count, ("each", ["r"], "n", ())), (count, ("each", "r", ("n", 0), ())), (count, ("each", "r", None, ())),
            (count, ("each", "r", "n", (), ())), (ask, ("else",)), (ask, ("end",)), (("end", "a"),), (("else", "a"),), (("form",),), (("form", ()),),
            (ask, ()), (ask, None), (None,), ("ask",), ("ask a pick x",), "ask a pick x", {"ask": ask}, (ask, ("leave", "form", is_x)),
        ):
            self.assert_no_form(steps)

    def test_a_form_may_be_told_of_one_step_over_and_over(self):
        check = ("hard", ("is", "a", "x"))
        ask = ("ask", "a", ("pick", ("x",)))
        self.assertTrue(is_form((ask,) + (check,) * 59))
        self.assert_no_form((ask,) + (check,) * 60)
        self.assert_no_form((ask, ask))


class TestAsks(unittest.TestCase):
    FORM = form(
        "ask m count 1 2 / part p / ask a pick x y / each r m / ask b some x / if b has x / ask c count 3 4 / else / ask d pick z / end"
        " / ask e pick x / end / ask f pick x / end / ask n count 0 4 / each s n / ask g pick x / ask h pick y / end"
        " / ask o count 0 0 / each t o / ask i pick x / end / ask j pick x"
    )

    def test_asks_of(self):
        self.assertTrue(alike(asks_of(self.FORM), (
            ("m", ("count", 1, 2), ""), ("a", ("pick", ("x", "y")), ""), ("b", ("some", ("x",)), "r"), ("c", ("count", 3, 4), "r"),
            ("d", ("pick", ("z",)), "r"), ("e", ("pick", ("x",)), "r"), ("f", ("pick", ("x",)), ""), ("n", ("count", 0, 4), ""),
            ("g", ("pick", ("x",)), "s"), ("h", ("pick", ("y",)), "s"), ("o", ("count", 0, 0), ""), ("i", ("pick", ("x",)), "t"),
            ("j", ("pick", ("x",)), ""),
        )))
        self.assertEqual(asks_of(()), ())
        self.assertEqual(asks_of(form("part p / end")), ())

    def test_keys_of(self):
        self.assertTrue(alike(keys_of(self.FORM), (
            ("m", 0), ("a", 0), ("b", 1), ("c", 1), ("d", 1), ("e", 1), ("b", 2), ("c", 2), ("d", 2), ("e", 2), ("f", 0), ("n", 0),
            ("g", 1), ("h", 1), ("g", 2), ("h", 2), ("g", 3), ("h", 3), ("g", 4), ("h", 4), ("o", 0), ("j", 0),
        )))
        self.assertEqual(keys_of(()), ())

    def test_kind_of(self):
        for name, kind, home in asks_of(self.FORM):
            for person in range(-1, 6):
                stands = {"": [0], "r": [1, 2], "s": [1, 2, 3, 4], "t": []}[home]
                if person in stands:
                    self.assertTrue(alike(kind_of(self.FORM, (name, person)), kind))
                else:
                    refuse(self, NoKey, kind_of, self.FORM, (name, person))
        for key in keys_of(self.FORM):
            self.assertIn((key[0], kind_of(self.FORM, key)), [(name, kind) for name, kind, _ in asks_of(self.FORM)])

    def test_what_is_no_key_is_refused(self):
        for key in (("p", 0), ("r", 0), ("r", 1), ("s", 1), ("t", 0), ("z", 0), ("x", 0), ("a", 1), ("a", False), ("b", True), ("m", False), ("b", 0), ("b", 3),
                    ("g", 5), ("i", 1), ("i", 0), ["a", 0], ("a",), ("a", 0, 0), ("a", "0"), ("a", None), ("a", [0]), (["a"], 0), (0, "a"), "a", "a 0",
                    ("a", TOP), ("a", -1), (("a", 0), 0), {"a": 0}, {("a", 0): 0}, ("ask", 0), ("", 0)):
            refuse(self, NoKey, kind_of, self.FORM, key)
            refuse(self, NoKey, kind_of, (), key)
        for thing in THINGS:
            if thing not in (("a", 0),):
                refuse(self, NoKey, kind_of, self.FORM, thing)

    def test_no_form_goes_first(self):
        for thing in (None, [], {}, "ask a pick x", ((),), [("ask", "a", ("pick", ("x",)))], 0, True):
            self.assertEqual(refuse(self, NoForm, kind_of, thing, ("a", True)).row, -1)
