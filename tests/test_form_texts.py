import random
import unittest

from askround.errors import NoForm
from askround.forms.texts import form_text, read_form
from askround.forms.trees import is_form
from tests.chance import random_form
from tests.support import THINGS, alike, refuse, refuse_form

COUNT = "ask n count 0 4"
PICK = "ask a pick x"
# Texts, rows with " / " between, and the number of the first row that can't stand.
NO_TEXTS = [
    # rows that are none
    (" ", 0), ("x", 0), ("ask", 0), ("ask ", 0), ("ask a", 0), ("ask a ", 0), ("ask a pick", 0), ("ask a pick ", 0), ("ask  a pick x", 0),
    ("ask a  pick x", 0), ("ask a pick  x", 0), (" ask a pick x", 0), ("ask a pick x ", 0), ("Ask a pick x", 0), ("ask pick x", 0),
    ("ask a count 0", 0), ("ask a count 0 01", 0), ("ask a count 0 1 2", 0), ("ask a b pick x", 0), ("askapickx", 0), ("a ask pick x", 0),
    ("if", 0), ("if ", 0), (PICK + " / if", 1), (PICK + " / if  a is x", 1), (PICK + " / if a is x ", 1), (PICK + " / if a", 1), (PICK + " / if a is x then", 1),
    ("part", 0), ("part ", 0), ("part p ", 0), ("part  p", 0), ("part p q", 0), ("part P", 0), (" part p", 0), ("part pick", 0),
    (PICK + " / part p / leave", 2), (PICK + " / part p / leave p", 2), (PICK + " / part p / leave p ", 2), (PICK + " / part p / leave a is x", 2),
    (PICK + " / part p / leave  p a is x", 2), (PICK + " / part p / leave p  a is x", 2), (PICK + " / part p / leave p a is x ", 2),
    (COUNT + " / each", 1), (COUNT + " / each r", 1), (COUNT + " / each r ", 1), (COUNT + " / each  n", 1), (COUNT + " / each r n ", 1),
    (COUNT + " / each r  n", 1), (COUNT + " / each r n n", 1), (COUNT + " / each R n", 1), (COUNT + " / each n r", 1),
    (PICK + " / hard", 1), (PICK + " / hard ", 1), (PICK + " / hard a is x ", 1), (PICK + " / hard  a is x", 1), (PICK + " / soft", 1), (PICK + " / soft a is", 1),
    (PICK + " / soft ( a is x )", 1), (PICK + " / check a is x", 1), (PICK + " / hard a is x and a is x", 1), (PICK + " / hardly a is x", 1),
    # else and end
    ("end", 0), ("else", 0), (PICK + " / end", 1), (PICK + " / else", 1), ("part p / end / end", 2), ("part p / else", 1), ("part p / end ", 1), ("part p /  end", 1),
    ("part p / end p", 1), (PICK + " / if a is x / else ", 2), (PICK + " / if a is x / else / end", 3), (PICK + " / if a is x / hard a is x / else / end", 4),
    (PICK + " / if a is x / else / else", 3), (PICK + " / if a is x / else / hard a is x / else", 4), (PICK + " / if a is x / end / else", 3),
    (PICK + " / if a is x / else if a is x", 2), (PICK + " / if a is x / part p / else", 3), (PICK + " / if a is x / part p / end / else / part q / else", 6),
    (COUNT + " / each r n / else", 2), (COUNT + " / each r n / end / end", 3), (PICK + " / if a is x / else / part p / end / else", 5),
    # empty rows
    (PICK + " / ", 1), (" / " + PICK, 0), (PICK + " /  / hard a is x", 1), ("part p /  / end", 1), (" / ", 0),
    # what isn't ended
    ("part p", 1), (PICK + " / part p", 2), (PICK + " / if a is x", 2), (PICK + " / if a is x / hard a is x", 3), (PICK + " / if a is x / else", 3),
    (PICK + " / if a is x / else / hard a is x", 4), (COUNT + " / each r n", 2), (COUNT + " / each r n / ask a pick x", 3), ("part p / part q / end", 3),
    ("part a / part b / part c / part d / part e", 5), (PICK + " / " + " / ".join(["hard a is x"] * 58) + " / part p", 60),
    (PICK + " / " + " / ".join(["hard a is x"] * 58) + " / if a is x / else", 61),
    # an else stands in each if without one, also where no more steps can
    (PICK + " / " + " / ".join(["hard a is x"] * 58) + " / if a is x / else / hard a is x / end", 61),
    (PICK + " / " + " / ".join(["hard a is x"] * 58) + " / if a is x / else / end", 61),
    (PICK + " / part b / part c / part d / part e / if a is x / else / hard a is x", 7), (PICK + " / part b / part c / part d / part e / if a is x / else", 7),
]


class TestTexts(unittest.TestCase):
    def test_rows(self):
        form = (
            ("ask", "a", ("pick", ("x", "y"))), ("ask", "b", ("some", ("x",))), ("ask", "n", ("count", 0, 4)),
            ("if", ("is", "a", "x"), (("hard", ("has", "b", "x")),), (("soft", ("from", "n", 1)),)),
            ("if", ("is", "a", "y"), (), (("part", "p", ()),)), ("if", ("to", "n", 0), (), ()),
            ("part", "q", (("each", "r", "n", (("ask", "c", ("pick", ("z",))), ("leave", "q", ("not", ("is", "c", "z"))))),)),
            ("soft", ("any", "r", ("is", "c", "z"))),
        )
        text = """ask a pick x y
ask b some x
ask n count 0 4
if a is x
hard b has x
else
soft n from 1
end
if a is y
else
part p
end
end
if n to 0
end
part q
each r n
ask c pick z
leave q not c is z
end
end
soft any r c is z"""
        self.assertEqual(form_text(form), text)
        self.assertTrue(alike(read_form(text), form))

    def test_the_empty_form_is_the_empty_text(self):
        self.assertEqual(form_text(()), "")
        self.assertTrue(alike(read_form(""), ()))

    def test_rows_that_can_not_stand(self):
        for rows, number in NO_TEXTS:
            refuse_form(self, number, read_form, "\n".join(rows.split(" / ")))

    def test_whatever_follows_the_row_stays_the_first(self):
        for rows, number in NO_TEXTS:
            parts = rows.split(" / ")
            if len(parts) > number:
                for more in ([""], ["end"], ["ask q pick x"], ["part a", "part p"], ["nothing"] * 80):
                    refuse_form(self, number, read_form, "\n".join(parts[:number + 1] + more))

    def test_other_line_ends_are_none(self):
        for text in ("ask a pick x\r\nhard a is x", "ask a pick x\n\nhard a is x", "ask a pick x\n", "\nask a pick x", "\n", "\n\n"):
            refuse_form(self, {"\n": 0, "\n\n": 0}.get(text, 0 if text[0] == "\n" or "\r" in text else 1), read_form, text)

    def test_what_is_no_text(self):
        for thing in THINGS:
            if not isinstance(thing, str):
                refuse_form(self, -1, read_form, thing)
            elif thing:
                self.assertGreaterEqual(refuse(self, NoForm, read_form, thing).row, 0)

    def test_there_and_back_at_random(self):
        chance = random.Random(31)
        for _ in range(400):
            form = random_form(chance)
            self.assertTrue(is_form(form), form)
            self.assertTrue(alike(read_form(form_text(form)), form))

    def test_a_text_that_is_read_is_the_one_written(self):
        chance = random.Random(32)
        parts = ["end", "else", "part pp", "ask aa pick x", "if a is x", "", "each rr n", "leave p a is x", "hard a is x"]
        read = 0
        for _ in range(400):
            rows = form_text(random_form(chance)).split("\n")
            for _ in range(10):
                changed = list(rows)
                at = chance.randrange(len(changed) + 1)
                changed[at:at + chance.randrange(3)] = [chance.choice(parts + rows)] * chance.randrange(2)
                read += self.assert_read_or_refused("\n".join(changed))
        self.assertGreater(read, 300)

    def assert_read_or_refused(self, text):
        try:
            form = read_form(text)
        except NoForm as error:
            self.assertTrue(0 <= error.row <= len(text.split("\n")))
            return 0
        self.assertTrue(is_form(form))
        self.assertEqual(form_text(form), text)
        return 1
