import copy
import random
import unittest

from askround.book.entries import is_book, joined
from askround.desk.texts import book_text, read_book
from askround.errors import NoBook, NoText
from tests import made_rows
from tests.chance import random_book, random_form
from tests.support import THINGS, TOP, alike, refuse
from tests.test_entries import strikes

KEY = ("a", 0)


def told(value, key=KEY):
    return ((0, "a", ("tell", key, value)),)


TEXTS = [
    ((), ""),
    (told("x"), "0 a tell a 0 x"),
    (told("abcdefgh", ("hgfedcba", 4)), "0 a tell hgfedcba 4 abcdefgh"),
    (told(()), "0 a tell a 0 +"),
    (told(("x",)), "0 a tell a 0 +x"),
    (told(("y", "x")), "0 a tell a 0 +y+x"),
    (told(("u", "v", "w", "x", "y", "z")), "0 a tell a 0 +u+v+w+x+y+z"),
    (told(0), "0 a tell a 0 0"),
    (told(10 ** 6), "0 a tell a 0 1000000"),
    (told(10, ("b", 3)), "0 a tell b 3 10"),
    (((10 ** 6, "abcdefgh", ("strike", ("a", 4))),), "1000000 abcdefgh strike a 4"),
    (((7, "a", ("let", (0, 0))),), "7 a let 0 0"),
    (((7, "a", ("let", (59, 4))),), "7 a let 59 4"),
    # Hands, keys and options that are the words of entries.
    (((1, "tell", ("tell", ("tell", 0), "tell")),), "1 tell tell tell 0 tell"),
    (((1, "strike", ("strike", ("let", 1))),), "1 strike strike let 1"),
    (((1, "let", ("let", (1, 1))),), "1 let let 1 1"),
    (((1, "strike", ("tell", ("let", 0), ("tell", "let"))),), "1 strike tell let 0 +tell+let"),
    (
        ((4, "z", ("let", (3, 1))), (5, "a", ("strike", KEY)), (5, "b", ("tell", KEY, "x")), (9, "b", ("tell", KEY, ())), (10, "a", ("tell", KEY, 10))),
        "4 z let 3 1\n5 a strike a 0\n5 b tell a 0 x\n9 b tell a 0 +\n10 a tell a 0 10",
    ),
]


class TestBookTexts(unittest.TestCase):
    def assert_there_and_back(self, book, text):
        kept = copy.deepcopy(book)
        self.assertTrue(is_book(book))
        self.assertTrue(alike(book_text(book), text), book_text(book))
        self.assertTrue(alike(read_book(text), book), read_book(text))
        self.assertTrue(alike(book, kept))

    def assert_none(self, *texts):
        for text in texts:
            refuse(self, NoText, read_book, text)

    def test_there_and_back(self):
        for book, text in TEXTS:
            self.assert_there_and_back(book, text)

    def test_by_stamps_whatever_the_order(self):
        chance = random.Random(44)
        for book, text in TEXTS:
            for _ in range(4):
                shuffled = tuple(chance.sample(book, len(book)))
                kept = copy.deepcopy(shuffled)
                self.assertEqual(book_text(shuffled), text)
                self.assertTrue(alike(shuffled, kept))

    def test_two_hundred(self):
        rows = [f"{moment} a strike a 0" for moment in range(201)]
        self.assert_there_and_back(strikes(200), "\n".join(rows[:200]))
        self.assert_none("\n".join(rows))
        self.assert_none("\n".join(rows * 3))

    def test_no_book(self):
        for thing in [*THINGS, strikes(201), strikes(1) + strikes(1), told(True), told(None), told(["x"]), list(strikes(2)), told("x")[0], "0 a tell a 0 x"]:
            if not alike(thing, ()):
                refuse(self, NoBook, book_text, thing)

    def test_no_text(self):
        for thing in THINGS:
            if not alike(thing, ""):
                self.assert_none(thing)
        self.assert_none((), [], b"", told("x"), ["0 a let 0 0"], 7, None, True)

    def test_line_ends(self):
        for _, text in TEXTS:
            self.assert_none(text + "\n", "\n" + text, text + "\n\n", "\n\n" + text)
        one, two = "0 a let 0 0", "1 a let 0 0"
        self.assertEqual(len(read_book(one + "\n" + two)), 2)
        self.assert_none(one + "\n\n" + two, one + two, one + " " + two, one + "/" + two, one + " / " + two, "\n", "\n\n", " ", one + "\n " + two, one + " \n" + two, one + "\n \n" + two)

    def test_blanks(self):
        for _, text in TEXTS[1:]:
            self.assert_none(" " + text, text + " ", "  " + text)
            for at, sign in enumerate(text):
                if sign == " ":
                    self.assert_none(text[:at] + " " + text[at:], text[:at] + text[at + 1:], text[:at] + "\n" + text[at + 1:], text[:at] + "  " + text[at:])

    def test_words(self):
        for text in ("0 a tell b 0 x", "0 a strike b 0", "0 a let 7 0", "0 a tell b 0 +x+y"):
            words = text.split(" ")
            self.assertEqual(len(read_book(text)), 1)
            for at in range(len(words)):
                self.assert_none(" ".join(words[:at] + words[at + 1:]), " ".join(words[:at] + [""] + words[at + 1:]))
                self.assert_none(*[" ".join(words[:at] + [word] + words[at:]) for word in (words[at], "a", "0", "tell", "let", "x", "")])
        self.assert_none(
            "0 a let b 0", "0 a strike 7 0", "0 a strike b 0 x", "0 a let 7 0 x", "0 a tell b 0", "0 a tell b x", "0 a ask b 0", "0 a Tell b 0 x", "0 a tells b 0 x", "a 0 tell b 0 x",
            "tell b 0 x", "strike b 0", "let 7 0", "0 a", "0", "a", "0 a tell", "0 a let 7", "0 a b strike 0", "0 a keep b 0", "0 a join b 0 x",
        )

    def test_moments_and_hands(self):
        for moment in ("00", "01", "1000001", "10000000", "-1", "+1", "1.0", "1_0", "a", "", "x" * 9, "9" * 4000, str(TOP)):
            self.assert_none(moment + " a strike b 0", moment + " a let 0 0", moment + " a tell b 0 x")
        for hand in ("A", "abcdefghi", "ask", "is", "every", "", "a1", "0", "a+b", "-", "+"):
            self.assert_none(f"0 {hand} strike b 0", f"0 {hand} let 0 0", f"0 {hand} tell b 0 x")

    def test_keys_and_checks(self):
        for person in ("5", "-1", "00", "01", "+0", "a", "True", "10", "1000000", ""):
            self.assert_none(f"0 a strike b {person}", f"0 a tell b {person} x", f"0 a let 0 {person}")
        for name in ("B", "abcdefghi", "pick", "any", "0", "", "b+", "b0"):
            self.assert_none(f"0 a strike {name} 0", f"0 a tell {name} 0 x")
        for number in ("60", "-1", "00", "07", "a", "1000000", "+7", ""):
            self.assert_none(f"0 a let {number} 0")

    def test_values(self):
        for value in (
            "-", "++", "+x+", "+x++y", "++x", "x+y", "x+", "+x+x", "+x+y+x", "+a+b+c+d+e+f+g", "+is", "+x+is", "is", "ask", "+0", "+x+0", "X", "+X", "abcdefghi", "+abcdefghi", "00", "01",
            "1000001", "-1", "1.0", "True", "None", "()", "'x'", "x,y", "+x,y", "", "x0",
        ):
            self.assert_none("0 a tell b 0 " + value)

    def test_rows_not_by_stamps(self):
        rows = ["0 a strike b 0", "0 b strike b 0", "1 a strike b 0", "9 a strike b 0", "10 a strike b 0"]
        self.assertEqual(len(read_book("\n".join(rows))), 5)
        self.assert_none("\n".join(rows[::-1]))
        for at in range(4):
            self.assert_none("\n".join([*rows[:at], rows[at + 1], rows[at], *rows[at + 2:]]), "\n".join([*rows[:at], rows[at], *rows[at:]]))
        self.assert_none("0 a strike b 0\n0 a let 0 0", "0 a let 0 0\n0 a let 0 0", "0 b let 0 0\n0 a let 0 0", "10 a let 0 0\n9 a let 0 0", "0 a let 0 0\n0 b let 0 0\n0 a let 0 0")

    def test_a_sign_more_less_or_other(self):
        for book, text in TEXTS:
            bent = [text[:at] + text[at + 1:] for at in range(len(text))]
            bent += [text[:at] + sign + text[at + more:] for at in range(len(text) + 1) for sign in " \n+-0aA_~\t" for more in (0, 1)]
            for other in bent:
                self.assert_read_or_none(other)

    def assert_read_or_none(self, text):
        """What is read at all is written just so."""
        try:
            book = read_book(text)
        except NoText:
            return
        self.assertTrue(is_book(book), text)
        self.assertTrue(alike(book, joined(book, ())), text)
        self.assertEqual(book_text(book), text)

    def test_at_random(self):
        chance = random.Random(45)
        for _ in range(300):
            steps = random_form(chance, chance.randrange(6, 20))
            checks = [(0, 0), *[check for _, check, _ in made_rows.checks_run(steps)]]
            entries = random_book(chance, made_rows.keys_asked(steps), checks, chance.randrange(0, 60))
            self.assertTrue(is_book(entries))
            self.assertTrue(alike(read_book(book_text(entries)), joined(entries, ())))
