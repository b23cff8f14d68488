import random
import unittest

from askround.asking.comes import come_to
from askround.book.entries import read_by
from askround.book.sittings import Sitting
from askround.desk.desk import Desk
from askround.desk.texts import book_text
from askround.errors import AskError, CannotGo, Clash, Full, NoCheck, NoFit, NoKey, NoLine, NoLines, NoValue, Stuck, TooWide, Twice
from askround.forms.texts import form_text
from askround.tables.sums import cross
from tests import made_rows
from tests.chance import random_book, random_form, random_value
from tests.rewrites import changed
from tests.support import THINGS, TOP, refuse
from tests.test_classes import WIDER, wide_form
from tests.trees import condition, form

ROWS = "ask a pick x y / ask n count 0 2 / soft a is x / each r n / ask b some x y / soft b has x / end / ask c count 0 9 / hard c to 8"
# What a desk tells of itself, whatever it is asked; so what is refused is seen to change nothing.
LOOKS = ("now", "taken", "book")


def desk_of(*rows):
    desk = Desk()
    for row in rows:
        if desk.say(row) != "ok" and row != "keep":
            raise AssertionError(row)
    return desk


class TestSay(unittest.TestCase):
    def assert_says(self, desk, *told):
        """Each row, with what it is answered."""
        for row, answer in told:
            found = desk.say(row)
            self.assertIs(type(found), str)
            self.assertEqual(found, answer, row)

    def refuse(self, error, desk, *rows):
        before = [desk.say(look) for look in LOOKS]
        for row in rows:
            refuse(self, error, desk.say, row)
            self.assertEqual([desk.say(look) for look in LOOKS], before, row)

    def test_at_first(self):
        desk = Desk()
        self.assert_says(desk, ("now", "end"), ("taken", "-"), ("book", ""))
        self.refuse(Stuck, desk, "back")
        self.refuse(NoKey, desk, "come a 0", "tell 0 ann a 0 x", "strike 0 ann a 0")
        self.refuse(NoCheck, desk, "let 0 ann 0 0")
        self.refuse(NoLines, desk, "cross a is x ; a is x")
        self.assert_says(desk, ("keep", "1"), ("keep", "2"))

    def test_through_a_form(self):
        self.assert_says(
            Desk(), ("form " + ROWS, "ok"), ("now", "ask a 0"), ("tell 5 ann a 0 y", "ok"), ("now", "ask n 0"), ("taken", "a 0 y"), ("tell 6 bob n 0 1", "ok"), ("now", "soft 0 0"), ("let 7 ann 0 0", "ok"),
            ("now", "ask b 1"), ("tell 8 ann b 1 +", "ok"), ("now", "soft 1 1"), ("taken", "a 0 y, n 0 1, b 1 +"), ("let 9 ann 1 1", "ok"), ("now", "ask c 0"), ("tell 10 ann c 0 9", "ok"), ("now", "hard 2 0"),
            ("strike 11 ann c 0", "ok"), ("now", "ask c 0"), ("tell 12 ann c 0 8", "ok"), ("now", "end"), ("taken", "a 0 y, n 0 1, b 1 +, c 0 8"),
            ("book", "5 ann tell a 0 y / 6 bob tell n 0 1 / 7 ann let 0 0 / 8 ann tell b 1 + / 9 ann let 1 1 / 10 ann tell c 0 9 / 11 ann strike c 0 / 12 ann tell c 0 8"),
            ("tell 13 ann b 1 +x+y", "ok"), ("taken", "a 0 y, n 0 1, b 1 +x+y, c 0 8"), ("back", "ok"), ("back", "ok"), ("now", "ask c 0"),
        )

    def test_form(self):
        desk = desk_of("form " + ROWS, "tell 0 a a 0 x")
        self.assert_says(desk, ("form " + ROWS, "ok"), ("book", ""), ("now", "ask a 0"))
        self.refuse(Stuck, desk, "back")
        self.assert_says(desk, ("form ", "ok"), ("now", "end"), ("form part p / end", "ok"), ("now", "end"), ("form ask form count 0 0", "ok"), ("now", "ask form 0"))
        self.assert_says(desk, ("tell 0 form form 0 0", "ok"), ("book", "0 form tell form 0 0"), ("taken", "form 0 0"))

    def test_form_texts_there_and_back(self):
        chance = random.Random(119)
        for _ in range(40):
            steps = random_form(chance, chance.randrange(4, 24))
            desk = desk_of("form " + form_text(steps).replace("\n", " / "))
            then = Sitting(steps).now()
            self.assertEqual(desk.say("now"), " ".join([then[0], *map(str, then[1])]) if then != ("end",) else "end")
            self.refuse(NoLine, desk, "form " + form_text(steps).replace("\n", " /  "), "form " + form_text(steps) + "\n", "form " + form_text(steps) + " / ", "change " + form_text(steps).replace("\n", "/") + "/")

    def test_change(self):
        desk = desk_of("form " + ROWS, "tell 3 a a 0 y", "tell 2 a n 0 0", "let 4 a 0 0", "tell 1 a c 0 7")
        self.refuse(CannotGo, desk, "change ", "change ask c count 0 9", "change ask a pick x / ask n count 0 2 / ask c count 0 9")
        self.assert_says(desk, ("change ask c count 0 9 / ask a pick z y / ask n count 0 0", "ok"), ("book", "1 a tell c 0 7 / 2 a tell n 0 0 / 3 a tell a 0 y"), ("taken", "c 0 7, a 0 y, n 0 0"), ("now", "end"))
        self.assert_says(desk, ("back", "ok"), ("now", "end"), ("book", "1 a tell c 0 7 / 2 a tell n 0 0 / 3 a tell a 0 y / 4 a let 0 0"))
        self.assert_says(desk_of("form ask a pick x", "change "), ("now", "end"), ("back", "ok"), ("now", "ask a 0"))

    def test_tell_always_as_in_books(self):
        desk = desk_of("form ask a pick x y / ask b some x y z / ask c count 0 1000000")
        self.assert_says(desk, ("tell 0 a b 0 +", "ok"), ("tell 1 a b 0 +x", "ok"), ("tell 2 a b 0 +x+y+z", "ok"), ("tell 3 a c 0 0", "ok"), ("tell 1000000 abcdefgh c 0 1000000", "ok"), ("tell 4 a a 0 y", "ok"))
        self.assert_says(desk, ("taken", "a 0 y, b 0 +x+y+z, c 0 1000000"))
        self.refuse(NoValue, desk, "tell 9 a b 0 x", "tell 9 a b 0 +z+x", "tell 9 a b 0 +w", "tell 9 a b 0 7", "tell 9 a a 0 z", "tell 9 a a 0 +x", "tell 9 a a 0 0", "tell 9 a c 0 x", "tell 9 a c 0 +", "tell 0 a a 0 z")
        self.refuse(NoLine, desk, "tell 9 a b 0 -", "tell 9 a b 0 x+y", "tell 9 a b 0 +x+x", "tell 9 a b 0 ++x", "tell 9 a b 0 +x+", "tell 9 a c 0 01", "tell 9 a c 0 1000001", "tell 9 a c 0 -1", "tell 9 a a 0 X", "tell 9 a a 0 is")
        self.refuse(NoKey, desk, "tell 9 a z 0 x", "tell 9 a a 1 x", "tell 9 a a 4 z", "strike 9 a z 0", "strike 9 a a 1", "strike 0 a z 0")
        self.refuse(Twice, desk, "tell 0 a a 0 x", "strike 4 a a 0", "tell 1000000 abcdefgh a 0 x")

    def test_let_and_strike(self):
        desk = desk_of("form " + ROWS, "tell 0 a a 0 y", "tell 1 a n 0 1")
        self.refuse(NoCheck, desk, "let 9 a 1 0", "let 9 a 0 1", "let 9 a 1 3", "let 9 a 2 0", "let 9 a 59 4", "let 0 a 7 0")
        self.refuse(Twice, desk, "let 0 a 0 0", "strike 1 a n 0")
        self.refuse(NoLine, desk, "let 9 a 60 0", "let 9 a 0 5", "let 9 a a 0", "let 9 a 00 0", "let 9 a 0 00", "strike 9 a a 5", "strike 9 a 0 0", "strike 9 a A 0", "strike 9 A a 0", "strike -1 a a 0", "strike 1000001 a a 0", "strike 09 a a 0")
        self.assert_says(desk, ("strike 2 a n 0", "ok"), ("now", "ask n 0"), ("strike 3 a n 0", "ok"), ("let 4 a 0 0", "ok"), ("tell 5 a n 0 0", "ok"), ("now", "ask c 0"), ("strike 6 a a 0", "ok"), ("taken", "-"))

    def test_full(self):
        desk = desk_of("form " + ROWS, *[f"strike {moment} a a 0" for moment in range(200)])
        self.refuse(Full, desk, "tell 200 a a 0 x", "strike 200 a a 0", "let 200 a 0 0", "join 200 a let 0 0")
        self.refuse(Twice, desk, "tell 199 a a 0 x")
        self.refuse(NoLine, desk, "tell 200 a a 0 ", "join " + " / ".join(f"{moment} b let 0 0" for moment in range(201)))

    def test_join(self):
        desk = desk_of("form " + ROWS, "tell 5 a a 0 y")
        self.assert_says(desk, ("join 4 a tell n 0 1 / 5 a tell a 0 y / 6 b tell zz 4 +", "ok"), ("book", "4 a tell n 0 1 / 5 a tell a 0 y / 6 b tell zz 4 +"), ("join ", "ok"), ("back", "ok"), ("back", "ok"), ("book", "5 a tell a 0 y"))
        self.refuse(Clash, desk, "join 5 a tell a 0 x", "join 5 a strike a 0", "join 4 a let 0 0 / 5 a let 0 0")
        self.refuse(NoLine, desk, "join 5 b let 0 0 / 5 a tell a 0 y", "join 5 b let 0 0 / 5 b let 0 0", "join 5 b let 0 0 / ", "join  / 5 b let 0 0", "join 5 b let 0", "join  ", "join let 5 b 0 0", "join 5 b let 0 0 /", "join 5 b let 0 0\n6 b let 0 0", "join -")

    def test_keep(self):
        desk = desk_of("form ask a pick x y / soft a is x / ask b pick x y")
        self.refuse(Stuck, desk, "keep")
        desk.say("tell 0 a a 0 y")
        self.refuse(Stuck, desk, "keep")
        desk.say("tell 1 a b 0 x")
        self.refuse(Stuck, desk, "keep")
        self.assert_says(desk, ("let 2 a 0 0", "ok"), ("keep", "1"), ("now", "ask a 0"), ("book", ""), ("taken", "-"))
        self.refuse(Stuck, desk, "keep", "back")
        self.assert_says(desk, ("join 7 a tell a 0 x / 8 a tell b 0 x", "ok"), ("keep", "2"), ("tell 0 a a 0 x", "ok"), ("tell 1 a b 0 y", "ok"), ("keep", "3"))
        self.assert_says(desk, ("cross a is x / a is y ; b is x / b is y", "1 1 / 1 0"))

    def test_keep_is_stuck_at_a_hard(self):
        desk = desk_of("form ask a pick x y / hard a is x", "tell 0 a a 0 y")
        self.refuse(Stuck, desk, "keep")
        self.assert_says(desk, ("tell 1 a a 0 x", "ok"), ("keep", "1"))

    def test_forty_records(self):
        desk = desk_of("form ask a pick x y")
        for many in range(1, 41):
            self.assert_says(desk, (f"tell {many} a a 0 {'x' if many < 31 else 'y'}", "ok"), ("keep", str(many)))
        self.refuse(Stuck, desk, "keep")
        desk.say("tell 0 a a 0 x")
        self.refuse(Full, desk, "keep")
        self.assert_says(desk, ("cross a is x / a is y ; a is x / a is y", "30 0 / 0 10"), ("now", "end"), ("change ask a pick x", "ok"), ("keep", "1"))

    def test_form_and_change_forget_records_for_good(self):
        for turn in ("form ask a pick x y", "change ask a pick x y"):
            desk = desk_of("form ask a pick x y", "tell 0 a a 0 x", "keep", "tell 0 a a 0 y", "keep", "tell 0 a a 0 x")
            self.assert_says(desk, ("cross a is x / a is y ; a is x / a is y", "1 0 / 0 1"), (turn, "ok"), ("cross a is x / a is y ; a is x / a is y", "0 0 / 0 0"))
            if turn[0] == "c":
                self.assert_says(desk, ("back", "ok"), ("cross a is x / a is y ; a is x / a is y", "0 0 / 0 0"), ("taken", "a 0 x"))
            else:
                self.assert_says(desk, ("tell 0 a a 0 x", "ok"))
            self.assert_says(desk, ("keep", "1"), ("cross a is x / a is y ; a is x / a is y", "1 0 / 0 0"))

    def test_what_does_not_forget_records(self):
        desk = desk_of("form ask a pick x y", "tell 0 a a 0 x", "keep")
        for row in ("form ask a", "change hard", "form", "change", "change ask a pick x y "):
            self.refuse(NoLine, desk, row)
        self.assert_says(desk, ("tell 0 a a 0 y", "ok"), ("join ", "ok"), ("back", "ok"))
        self.refuse(CannotGo, desk, "change ask a pick x", "change ")
        self.assert_says(desk, ("cross a is x ; a is x", "1"), ("keep", "2"), ("cross a is x / not a is x ; a is x / a is y", "1 0 / 0 1"))

    def test_come(self):
        desk = desk_of("form " + ROWS)
        for key, answer in (("a 0", "0"), ("n 0", "1"), ("b 1", "2"), ("b 2", "3"), ("c 0", "2")):
            self.assert_says(desk, ("come " + key, answer))
        self.assert_says(desk_of("form ask a pick x y / if ( a is x and a is y ) / ask b pick x / end"), ("come b 0", "never"), ("come a 0", "0"))
        self.refuse(NoKey, desk, "come b 0", "come b 3", "come z 0", "come r 0", "come a 4")
        self.refuse(NoLine, desk, "come", "come ", "come a", "come a ", "come a 5", "come a 00", "come a -1", "come a 0 0", "come A 0", "come is 0", "come a a", "come 0 a", "come  a 0", "come a  0", "come a 0 ", "come abcdefghi 0")
        self.refuse(TooWide, desk_of("form " + form_text(wide_form(WIDER)).replace("\n", " / ")), "come a 0", "come z 0")

    def test_cross(self):
        desk = desk_of("form ask a pick x y z / ask n count 0 2 / each r n / ask b pick x y / end")
        for a, n, b in (("x", 0, ""), ("y", 1, "x"), ("x", 2, "xy"), ("x", 2, "yy"), ("z", 1, "y")):
            desk.say(f"tell 0 a a 0 {a}")
            desk.say(f"tell 1 a n 0 {n}")
            for at, value in enumerate(b):
                desk.say(f"tell {2 + at} a b {at + 1} {value}")
            desk.say("keep")
        self.assert_says(
            desk, ("cross a is x / a is y / a is z ; n to 0 / n from 1", "1 2 / 0 1 / 0 1"), ("cross n from 0 ; n from 0", "5"), ("cross n from 0 ; a is x / a is y / a is z", "3 1 1"),
            ("cross a is x / not a is x ; n from 0", "3 / 2"), ("cross any r b is x / every r not b is x ; ( a is x or a is y ) / a is z", "2 0 / 2 1"), ("now", "ask a 0"),
        )
        self.refuse(NoFit, desk, "cross a is x ; n from 0", "cross n from 0 ; a is x / a is y", "cross a is x / a is y / a is z / a is z ; n from 0", "cross n from 0 / n to 0 ; n from 0")
        self.refuse(NoLines, desk, "cross b is x ; n from 0", "cross n from 0 ; z is x", "cross " + " / ".join(["n from 0"] * 9) + " ; n from 0", "cross n from 0 ; " + " / ".join(["n from 0"] * 9), "cross a is w ; n from 0", "cross any z a is x ; n from 0")
        self.refuse(
            NoLine, desk, "cross", "cross ", "cross  ; ", "cross ;", "cross ; ", "cross n from 0", "cross n from 0 ;", "cross n from 0 ; ", "cross  ; n from 0", "cross ; n from 0", "cross n from 0 ; n from 0 ; n from 0",
            "cross n from 0 / ; n from 0", "cross n from 0 /  ; n from 0", "cross  / n from 0 ; n from 0", "cross n from 0; n from 0", "cross n from 0 ;n from 0", "cross n from 0  ; n from 0", "cross n from 0 ;  n from 0",
            "cross n from 0 ; n from 0 ", "cross  n from 0 ; n from 0", "cross n from 00 ; n from 0", "cross n ; n", "cross n  from 0 ; n from 0", "cross not ; not", "cross n from 0 / is ; n from 0", "cross ( a is x ) ; n from 0",
            "cross n from 0 , n from 0", "cross n from 0 ; any r any r n from 0", "cross b is ; z is x",
        )

    def test_no_line(self):
        desk = desk_of("form " + ROWS, "tell 0 a a 0 y", "tell 1 a n 0 1")
        self.refuse(
            NoLine, desk, "", " ", "  ", "form", "change", "join", "tell", "strike", "let", "come", "cross", "back ", " back", "back back", "back 1", "keep ", " keep", "keep 1", "now ", " now", "now now", "taken ", "taken a", "book ", "book a",
            " form ", "Form ", "FORM ", "forms ", "form\n", "form \n", "now\n", "\nnow", "book\n", "ask a 0", "end", "ok", "read", "quit", "undo", "say now", "tell", "tell ", "strike ", "let ", "Now", "-", "/", " / ", "now / now", "/ now",
            "form  ", "form  / ", "form / ", "form ask a pick x ", "form  ask a pick x", "form ask  a pick x", "form ask a pick x / ", "form ask a pick x /", "form ask a pick x/ask b pick x", "form ask a pick x\nask b pick x", "form hard a is x",
            "form ask a pick x / end", "form part p", "form ask a count 00 1", "form ask a count 0 01", "form ask a pick x / if a is x / else / end", "form -", "form form", "change ask a", "change  ", "change / ", "change part p", "change end",
        )
        self.refuse(NoLine, desk, *[thing for thing in THINGS if not isinstance(thing, str)], b"now", ("now",), ["now"], {"now": 0}, TOP, None, True, *[thing for thing in THINGS if isinstance(thing, str)])

    def test_words_too_many_or_too_few(self):
        desk = desk_of("form " + ROWS)
        for row in ("tell 3 a a 0 x", "strike 3 a a 0", "let 3 a 0 0", "come a 0"):
            words = row.split(" ")
            for at in range(1, len(words)):
                self.refuse(NoLine, desk, " ".join(words[:at] + words[at + 1:]), " ".join(words[:at] + [""] + words[at:]), " ".join(words[:at] + [""] + words[at + 1:]), " ".join(words[:at]), " ".join(words[:at]) + " ")
                self.refuse(NoLine, desk, *[" ".join(words[:at] + [word] + words[at:]) for word in ("a", "0", "x", "tell", "strike", "let", "/")])
            self.refuse(NoLine, desk, row + " ", row + " x", row + " 0", row + " /", " " + row, row.upper(), row + "\n", row + " / " + row, row + " / 4 a strike a 0", row.replace(" ", "\n"), row.replace(" ", "  "))
        self.refuse(NoLine, desk, "tell a 3 a 0 x", "tell 3 a tell a 0 x", "tell 3 a tell a", "tell 3 a a x 0", "strike a 3 a 0", "3 a tell a 0 x", "tell 3 a a 0 x / 4 a tell a 0 x", "tell 3 a a 0", "tell 3 a 0 x", "strike 3 a a 0 x", "let 3 a 0 0 x")

    def test_refused_as_what_is_asked_behind_no_line(self):
        desk = desk_of("form " + ROWS, "tell 0 a a 0 y")
        self.refuse(NoLine, desk, "tell 0 a z 0 X", "tell 0 a a 5 z", "tell 00 a z 0 x", "strike 0 A z 0", "let 0 a 60 0", "join 0 a tell a 0 x / x", "cross z is x ; z")
        self.refuse(NoKey, desk, "tell 0 a z 0 x", "tell 0 a a 1 z")
        self.refuse(NoValue, desk, "tell 0 a a 0 z")
        self.refuse(Twice, desk, "tell 0 a a 0 y", "let 0 a 0 0")

    def test_two_do_not_meddle(self):
        one, other = desk_of("form ask a pick x y"), Desk()
        self.assert_says(other, ("now", "end"), ("keep", "1"))
        self.assert_says(one, ("now", "ask a 0"), ("tell 0 a a 0 x", "ok"), ("keep", "1"))
        self.assert_says(other, ("form ask a pick x y", "ok"), ("cross a is x ; a is x", "0"))
        self.assert_says(one, ("cross a is x ; a is x", "1"))

    def test_at_random(self):
        chance = random.Random(120)
        seen = {}
        for _ in range(50):
            desk, model = Desk(), Model()
            for _ in range(50):
                row = self.any_row(chance, model)
                try:
                    wanted = model.say(row)
                except AskError as refused:
                    refuse(self, type(refused), desk.say, row)
                    wanted = None
                if wanted is not None:
                    self.assertEqual(desk.say(row), wanted, row)
                    seen[row.split(" ")[0]] = seen.get(row.split(" ")[0], 0) + 1
                self.assertEqual([desk.say(look) for look in LOOKS], [model.say(look) for look in LOOKS])
        for word in ("form", "change", "tell", "strike", "let", "join", "back", "keep", "come", "cross", "now"):
            self.assertGreater(seen.get(word, 0), 15, seen)

    def any_row(self, chance, model):
        """A row by chance, most often one that goes on with what is asked."""
        steps = model.sitting.form()
        keys = made_rows.keys_asked(steps)
        then = model.sitting.now()
        stamp = f"{chance.randrange(60)} {chance.choice('ab')}"
        words = ("on", "on", "on", "on", "on", "on", "strike", "let", "join", "back", "keep", "now", "come", "change", "cross", "tell")
        word = chance.choice(words if keys else ("form", "form", "keep", "back", "join"))
        if then == ("end",) and chance.random() < 0.6 and keys:
            word = chance.choice(("keep", "keep", "cross", "form", "change"))
        if word == "on":
            word = {"ask": "tell", "soft": "let"}.get(then[0], "strike")
        if word == "form":
            return "form " + form_text(random_form(chance, chance.randrange(3, 8))).replace("\n", " / ")
        if word == "change":
            other = changed(chance, steps)
            return "change " + row_text(other)
        if word == "tell":
            key, kind = [pair for pair in keys if pair[0] == then[1]][0] if then[0] == "ask" else chance.choice(keys)
            return f"tell {stamp} {key[0]} {key[1]} {value_text(random_value(chance, kind))}"
        if word in ("strike", "come"):
            key = chance.choice(keys)[0]
            return f"{word} {stamp if word == 'strike' else ''} {key[0]} {key[1]}".replace("  ", " ")
        if word == "let":
            check = then[1] if then[0] == "soft" else (chance.randrange(3), chance.randrange(2))
            return f"let {stamp} {check[0]} {check[1]}"
        if word == "join":
            entries = random_book(chance, keys or [(("a", 0), ("pick", ("x",)))], [(0, 0)], chance.randrange(0, 4))
            return "join " + book_text(entries).replace("\n", " / ")
        if word == "cross":
            name, kind = chance.choice([(key[0], kind) for key, kind in keys])
            line = f"{name} {'from 2' if kind[0] == 'count' else ('is ' if kind[0] == 'pick' else 'has ') + kind[1][0]}"
            return f"cross {line} / not {line} ; {chance.choice((line, 'not ' + line + ' / ' + line))}"
        return word


def row_text(steps):
    """The text of a form that may be none, in a row."""
    try:
        return form_text(steps).replace("\n", " / ")
    except AskError:
        return "ask"


def value_text(value):
    return "".join("+" + option for option in value) or "+" if isinstance(value, tuple) else str(value)


class Model:
    """What a desk does, by a sitting and a list of records, for rows that are right but for what they ask."""

    def __init__(self):
        self.sitting = Sitting(())
        self.records = []

    def say(self, row):
        word, _, rest = row.partition(" ")
        return getattr(self, "say_" + word)(rest)

    def form_in(self, rest):
        if rest == "ask":
            raise NoLine("no form")
        return form(rest)

    def say_form(self, rest):
        self.sitting, self.records = Sitting(self.form_in(rest)), []
        return "ok"

    def say_change(self, rest):
        self.sitting.change(self.form_in(rest))
        self.records = []
        return "ok"

    def deed(self, rest, many):
        moment, hand, *words = rest.split(" ")
        name, person, *more = words
        if not more:
            return int(moment), hand, (name, int(person))
        value = tuple(more[0].split("+")[1:]) if len(more[0]) > 1 and more[0][0] == "+" else () if more[0] == "+" else int(more[0]) if more[0].isdigit() else more[0]
        return int(moment), hand, (name, int(person)), value

    def say_tell(self, rest):
        self.sitting.tell(*self.deed(rest, 5))
        return "ok"

    def say_strike(self, rest):
        self.sitting.strike(*self.deed(rest, 4))
        return "ok"

    def say_let(self, rest):
        moment, hand, number, person = rest.split(" ")
        self.sitting.let(int(moment), hand, (int(number), int(person)))
        return "ok"

    def say_join(self, rest):
        entries = []
        for row in rest.split(" / ") if rest else []:
            moment, hand, word, *words = row.split(" ")
            if word == "let":
                entries.append((int(moment), hand, ("let", (int(words[0]), int(words[1])))))
            else:
                entries.append((int(moment), hand, (word, *self.deed(" ".join([moment, hand, *words]), 0)[2:])))
        self.sitting.join(tuple(entries))
        return "ok"

    def say_back(self, rest):
        self.sitting.back()
        return "ok"

    def say_keep(self, rest):
        if self.sitting.now() != ("end",):
            raise Stuck("not at its end")
        self.records.append(self.sitting.answers())
        self.sitting = Sitting(self.sitting.form())
        return str(len(self.records))

    def say_now(self, rest):
        then = self.sitting.now()
        return then[0] if len(then) == 1 else f"{then[0]} {then[1][0]} {then[1][1]}"

    def say_taken(self, rest):
        taken = read_by(self.sitting.form(), self.sitting.book())[0]
        answers = self.sitting.answers()
        return ", ".join(f"{name} {person} {value_text(answers[(name, person)])}" for name, person in taken) or "-"

    def say_book(self, rest):
        return book_text(self.sitting.book()).replace("\n", " / ")

    def say_come(self, rest):
        name, person = rest.split(" ")
        told = come_to(self.sitting.form(), (name, int(person)))
        return "never" if told[0] == "never" else str(len(told[1]))

    def say_cross(self, rest):
        rows, columns = [tuple(condition(part) for part in side.split(" / ")) for side in rest.split(" ; ")]
        cells = cross(self.sitting.form(), tuple(self.records), rows, columns)[0]
        return " / ".join(" ".join(str(p) for p, _ in row) for row in cells)
