import copy
import random
import unittest

from askround.asking.plain import read
from askround.book.entries import answers_by, is_book, joined, lets_by, read_by
from askround.errors import Clash, Full, NoBook
from askround.forms.trees import is_form
from tests import made_rows
from tests.chance import random_book, random_form
from tests.support import THINGS, TOP, alike, answer_truth, refuse, refuse_form
from tests.trees import form

KEY = ("a", 0)
STRIKE = ("strike", KEY)


def with_deed(deed):
    return ((0, "a", deed),)


def strikes(many, first=0):
    return tuple((moment, "a", STRIKE) for moment in range(first, first + many))


class TestBooks(unittest.TestCase):
    def assert_book(self, *books):
        for book in books:
            self.assertTrue(answer_truth(self, is_book, book), book)

    def assert_none(self, *things):
        empty = form("ask a pick x")
        for thing in things:
            self.assertFalse(answer_truth(self, is_book, thing), thing)
            refuse(self, NoBook, joined, thing, ())
            refuse(self, NoBook, joined, (), thing)
            for call in (answers_by, lets_by, read_by):
                refuse(self, NoBook, call, empty, thing)

    def test_entries(self):
        self.assert_book((), with_deed(STRIKE), with_deed(("tell", KEY, "x")), with_deed(("let", (0, 0))))
        entry = (0, "a", STRIKE)
        self.assert_none(entry, [entry], (list(entry),), (entry[:2],), ((*entry, 0),), (entry, ()), (entry, None), {"a": entry}, (entry, entry, entry)[:2])

    def test_moments(self):
        self.assert_book(*[((moment, "a", STRIKE),) for moment in (0, 1, 10 ** 6 - 1, 10 ** 6)])
        self.assert_none(*[((moment, "a", STRIKE),) for moment in (-1, 10 ** 6 + 1, TOP, -TOP, True, False, None, "0", (0,), [])])

    def test_hands(self):
        self.assert_book(*[((0, hand, STRIKE),) for hand in ("a", "abcdefgh", "zz")])
        self.assert_none(*[((0, hand, STRIKE),) for hand in ("", "abcdefghi", "A", "a b", "tell me", "ask", "let it", "is", 0, None, ("a",), [])])
        # These are words of entries, not of forms.
        self.assert_book(*[((0, hand, STRIKE),) for hand in ("tell", "strike", "let")])

    def test_deeds(self):
        self.assert_none(*[with_deed(deed) for deed in (
            (), ("tell",), ("tell", KEY), ("tell", KEY, "x", 0), ["tell", KEY, "x"], ("Tell", KEY, "x"), ("strike",), ("strike", KEY, "x"), ["strike", KEY],
            ("strike", (0, 0)), ("let",), ("let", (0, 0), 0), ["let", (0, 0)], ("let", KEY), ("ask", KEY), ("keep", KEY), "let", "tell", None, 0, {}, (KEY, "tell"),
        )])

    def test_keys(self):
        for key in (("a", 0), ("a", 1), ("a", 4), ("abcdefgh", 3)):
            self.assert_book(with_deed(("tell", key, "x")), with_deed(("strike", key)))
        for key in (("a", -1), ("a", 5), ("a", TOP), ("a", True), ("a", False), ("a", None), ("a", "0"), ("a",), ("a", 0, 0), ["a", 0], ("is", 0), ("A", 0), ("", 0),
                    ("abcdefghi", 0), (0, "a"), (0, 0), "a", None, (), [], {}, ("a", [])):
            self.assert_none(with_deed(("tell", key, "x")), with_deed(("strike", key)))

    def test_values(self):
        for value in ("x", "abcdefgh", (), ("x",), ("x", "y", "z", "u", "v", "w"), 0, 1, 10 ** 6):
            self.assert_book(with_deed(("tell", KEY, value)))
        for value in ("", "abcdefghi", "X", "is", "x y", "-", "x+y", ("x", "y", "z", "u", "v", "w", "t"), ("x", "x"), ("x", "is"), ("x", 0), ("x", ("y",)), (None,), ["x"], [],
                      -1, 10 ** 6 + 1, TOP, True, False, None, {}, {"x": "y"}, (("x",),)):
            self.assert_none(with_deed(("tell", KEY, value)))

    def test_checks(self):
        for check in ((0, 0), (59, 0), (0, 4), (59, 4)):
            self.assert_book(with_deed(("let", check)))
        for check in ((60, 0), (-1, 0), (0, 5), (0, -1), (TOP, 0), (0, TOP), (True, 0), (0, True), (False, 0), (0, False), (None, 0), ("0", 0), (0, "a"), (0,), (0, 0, 0), [0, 0], 0, None,
                      (), ((0, 0), 0)):
            self.assert_none(with_deed(("let", check)))

    def test_how_many(self):
        self.assert_book((), strikes(1), strikes(199), strikes(200))
        self.assert_none(strikes(201), strikes(202), strikes(5000))

    def test_stamps(self):
        tell = ("tell", KEY, "x")
        self.assert_book(((0, "a", tell), (0, "b", tell), (1, "a", tell)), ((9, "b", tell), (9, "a", tell), (3, "z", STRIKE)))
        self.assert_none(((0, "a", tell), (0, "a", tell)), ((0, "a", tell), (1, "a", tell), (0, "a", STRIKE)), strikes(100) + strikes(1))

    def test_of_anything_a_truth_is_told(self):
        for thing in THINGS:
            if alike(thing, ()):
                self.assertTrue(is_book(thing))
            else:
                self.assert_none(thing)


class TestJoined(unittest.TestCase):
    def assert_joined(self, one, other, whole):
        for first, second in ((one, other), (other, one), (whole, one), (other, whole), (whole, whole)):
            kept = copy.deepcopy((first, second))
            found = joined(first, second)
            self.assertTrue(alike(found, whole), found)
            self.assertTrue(alike((first, second), kept))

    def test_by_stamps(self):
        one, two, three = (5, "b", ("tell", KEY, "x")), (5, "a", STRIKE), (4, "z", ("let", (3, 1)))
        self.assert_joined((), (), ())
        self.assert_joined((one,), (), (one,))
        self.assert_joined((one, two, three), (), (three, two, one))
        self.assert_joined((one, three), (two,), (three, two, one))
        self.assert_joined((two, one), (one, three), (three, two, one))
        late, early = (10, "a", STRIKE), (9, "a", STRIKE)
        self.assert_joined((late,), (early,), (early, late))

    def test_full(self):
        self.assert_joined(strikes(100), strikes(100, 100), strikes(200))
        self.assert_joined(strikes(200), strikes(100, 50), strikes(200))
        self.assert_joined(strikes(200), strikes(200), strikes(200))
        for one, other in ((strikes(200), strikes(1, 200)), (strikes(101), strikes(100, 101)), (strikes(200), strikes(200, 200)), (strikes(200), strikes(200, 1))):
            refuse(self, Full, joined, one, other)
            refuse(self, Full, joined, other, one)

    def test_clash(self):
        tell = (0, "a", ("tell", KEY, "x"))
        for entry in ((0, "a", ("tell", KEY, "y")), (0, "a", ("tell", ("a", 1), "x")), (0, "a", ("tell", KEY, ("x",))), (0, "a", STRIKE), (0, "a", ("let", (0, 0)))):
            refuse(self, Clash, joined, (tell,), (entry,))
            refuse(self, Clash, joined, (entry,), (tell,))
            refuse(self, Clash, joined, (entry, (1, "a", STRIKE)), ((0, "b", STRIKE), tell))
        self.assertEqual(len(joined((tell,), ((0, "b", STRIKE), (1, "a", STRIKE)))), 3)

    def test_clash_ahead_of_full(self):
        for clash in (0, 199):
            tell = (clash, "a", ("tell", KEY, "x"))
            for other in ((tell,) + strikes(199, 200), strikes(199, 200) + (tell,)):
                refuse(self, Clash, joined, strikes(200), other)
                refuse(self, Clash, joined, other, strikes(200))

    def test_no_book(self):
        tell = (0, "a", ("tell", KEY, "x"))
        for thing in (None, [tell], [], tell, strikes(201), (tell, tell), ((0, "a", ("tell", KEY, True)),), {}):
            for other in ((), (tell,), strikes(200), thing):
                refuse(self, NoBook, joined, thing, other)
                refuse(self, NoBook, joined, other, thing)


FORM = form(
    "ask a pick x y / ask b some x y / ask n count 0 2 / soft a is x / each r n / ask c pick x y / ask d count 0 9 / soft c is x / soft ( a is x or d from 5 ) / end"
    " / soft any r ( c is x and b has x ) / hard a is x / soft every r n from 0"
)
SHORT = form("ask a pick x y / ask b some x y / soft a is x / soft b has x / ask c count 0 9")


def book(text):
    """A book whose moments are the places of its deeds: a=x tells, -a strikes, !0 and !1.2 let; the hand is always a."""
    made = []
    for moment, word in enumerate(text.split()):
        if word[0] == "-":
            deed = ("strike", key_in(word[1:]))
        elif word[0] == "!":
            number, _, person = word[1:].partition(".")
            deed = ("let", (int(number), int(person or 0)))
        else:
            name, _, value = word.partition("=")
            deed = ("tell", key_in(name), value_in(value))
        made.append((moment, "a", deed))
    return tuple(made)


def key_in(word):
    return (word, 0) if word.isalpha() else (word[:-1], int(word[-1]))


def value_in(word):
    if word.isdigit():
        return int(word)
    return tuple(word.split("+")[1:]) if word[0] == "+" and word != "+" else () if word == "+" else word


class TestByBook(unittest.TestCase):
    def orders(self, entries):
        chance = random.Random(34)
        yield entries
        yield entries[::-1]
        for _ in range(3):
            yield tuple(chance.sample(entries, len(entries)))

    def assert_answers(self, steps, text, **answers):
        wanted = {key_in(name): value for name, value in answers.items()}
        for entries in self.orders(book(text)):
            self.assertTrue(is_book(entries))
            kept = copy.deepcopy(entries)
            found = answers_by(steps, entries)
            self.assertIs(type(found), dict)
            self.assertEqual(found, wanted, text)
            for key in found:
                self.assertTrue(alike(found[key], wanted[key]))
            self.assertTrue(alike(kept, entries))

    def assert_lets(self, text, *lets, steps=FORM):
        self.assertTrue(is_form(steps))
        for entries in self.orders(book(text)):
            kept = copy.deepcopy(entries)
            self.assertTrue(alike(lets_by(steps, entries), lets), (text, lets_by(steps, entries)))
            self.assertTrue(alike(kept, entries))

    def test_tells(self):
        self.assert_answers(FORM, "")
        self.assert_answers(FORM, "a=x", a="x")
        self.assert_answers(FORM, "a=x a=y", a="y")
        self.assert_answers(FORM, "a=x b=+x n=2 c1=x c2=y d2=0", a="x", b=("x",), n=2, c1="x", c2="y", d2=0)
        self.assert_answers(FORM, "b=+ n=0", b=(), n=0)
        self.assert_answers((), "a=x")

    def test_the_latest_by_stamps(self):
        steps = form("ask a pick x y z")
        entries = ((9, "b", ("tell", KEY, "x")), (10, "a", ("tell", KEY, "y")), (9, "c", ("tell", KEY, "z")))
        self.assertEqual(answers_by(steps, entries), {KEY: "y"})
        self.assertEqual(answers_by(steps, entries[::2]), {KEY: "z"})
        self.assertEqual(answers_by(steps, entries[::-2]), {KEY: "z"})
        self.assertEqual(answers_by(steps, ((9, "b", STRIKE), *entries[2:])), {KEY: "z"})
        self.assertEqual(answers_by(steps, ((9, "d", STRIKE), *entries[2:])), {})

    def test_strikes(self):
        self.assert_answers(FORM, "a=x -a")
        self.assert_answers(FORM, "-a a=x", a="x")
        self.assert_answers(FORM, "a=x -a a=y", a="y")
        self.assert_answers(FORM, "a=x a=y -a")
        self.assert_answers(FORM, "a=x b=+ -b -c1 c1=x -c2", a="x", c1="x")
        self.assert_answers(FORM, "-a -a")

    def test_what_counts_for_nothing(self):
        self.assert_answers(FORM, "a=x a=z a=0 a=+x", a="x")
        self.assert_answers(FORM, "b=+x+y b=+y+x b=x b=+z b=3", b=("x", "y"))
        self.assert_answers(FORM, "n=1 n=3 n=x n=+", n=1)
        self.assert_answers(FORM, "a1=x c0=x c3=x d0=1 d4=1 r1=x r0=x z=x n1=1")
        self.assert_answers(FORM, "a=x -a1 -z -r0 -c0 -c3", a="x")
        self.assert_answers(FORM, "a=x -a a=z")
        self.assert_answers(FORM, "a=z -a a=x !0 !5", a="x")

    def test_told_are_the_askers_own(self):
        entries = book("a=x b=+x")
        answers_by(FORM, entries).clear()
        self.assertEqual(len(answers_by(FORM, entries)), 2)

    def test_lets(self):
        self.assert_lets("")
        self.assert_lets("!0", (0, 0))
        self.assert_lets("!0 !0", (0, 0))
        self.assert_lets("!5 !1.2 !0 !1.1 !2.1 !3", (0, 0), (1, 1), (1, 2), (2, 1), (3, 0), (5, 0))

    def test_lets_of_no_soft_check(self):
        self.assert_lets("!4 !6 !59 !0.1 !5.1 !1 !2 !1.3 !2.4 !4.1 !3.2")
        self.assert_lets("!0 !1", (0, 0), (1, 0), steps=SHORT)
        self.assert_lets("!0", steps=form("ask a pick x / hard a is x"))
        self.assert_lets("!0 !0.1", steps=form("ask n count 0 0 / each r n / ask a pick x / soft a is x / end"))
        self.assert_lets("!0 !0.1 !0.2", (0, 1), steps=form("ask n count 1 1 / each r n / soft n from 1 / end"))

    def test_a_let_ahead_of_and_behind_a_tell(self):
        self.assert_lets("a=y !0", (0, 0))
        self.assert_lets("!0 a=y")
        self.assert_lets("!0 a=y !0", (0, 0))
        self.assert_lets("!0 -a")
        self.assert_lets("-a !0", (0, 0))
        self.assert_lets("a=y !0 a=y")
        self.assert_lets("!0 a=z a=1 a1=x -a1 b=+x -b n=1 c1=x", (0, 0))
        self.assert_lets("!0 !1 b=+ c=3", (0, 0), steps=SHORT)
        self.assert_lets("!0 !1 b=+x a=y", steps=SHORT)
        self.assert_lets("!0 !1 c=3 -c", (0, 0), (1, 0), steps=SHORT)

    def test_lets_in_a_round(self):
        self.assert_lets("!1.1 !1.2 c1=x", (1, 2))
        self.assert_lets("!1.1 !1.2 -c2", (1, 1))
        self.assert_lets("!1.1 !1.2 c3=x c0=x d1=3 a=x n=1", (1, 1), (1, 2))
        self.assert_lets("!2.1 !2.2 a=x")
        self.assert_lets("!2.1 !2.2 d2=5", (2, 1))
        self.assert_lets("!2.1 !2.2 c1=x c2=x", (2, 1), (2, 2))
        self.assert_lets("!2.1 a=y !2.2", (2, 2))

    def test_lets_within_any_and_every(self):
        for later in ("c1=x", "c2=x", "-c1", "-c2", "b=+x", "-b"):
            self.assert_lets("!3 " + later)
            self.assert_lets(later + " !3", (3, 0))
        for later in ("a=x", "d1=3", "-d2", "n=1", "c3=x", "c=x", "c1=z", "b=x"):
            self.assert_lets("!3 " + later, (3, 0))
        self.assert_lets("!5 n=1")
        self.assert_lets("!5 a=x b=+ c1=x d2=1", (5, 0))
        mixed = form("ask a pick x y / ask n count 0 4 / each r n / ask c pick x y / end / soft ( a is x or not any r ( c is x or a is y ) )")
        self.assert_lets("!0 n=4", (0, 0), steps=mixed)
        for later in ("a=x", "c1=x", "c4=y", "-c3", "-a"):
            self.assert_lets("!0 " + later, steps=mixed)

    def test_of_two_lets_one_that_holds_is_enough(self):
        self.assert_lets("!0 a=x !0 b=+", (0, 0))
        self.assert_lets("!0 a=x !0 a=y")

    def test_read_by(self):
        found = read_by(FORM, book("a=y b=+y n=1 !0 c1=y d1=4 !1.1 !2.1 !3"))
        self.assertTrue(alike(found, ((("a", 0), ("b", 0), ("n", 0), ("c", 1), ("d", 1)), ((0, 0), (1, 1), (2, 1), (3, 0)), ("hard", (4, 0)))))
        found = read_by(FORM, book("!0 a=y b=+y"))
        self.assertTrue(alike(found, ((("a", 0), ("b", 0)), (), ("ask", ("n", 0)))))
        found = read_by(FORM, book("!0 a=y b=+y n=2"))
        self.assertTrue(alike(found, ((("a", 0), ("b", 0), ("n", 0)), (), ("soft", (0, 0)))))
        self.assertEqual(read_by((), ()), ((), (), ("end",)))
        self.assertEqual(read_by((), book("a=x")), ((), (), ("end",)))

    def test_no_form_ahead_of_no_book(self):
        for call in (answers_by, lets_by, read_by):
            for thing in (None, [], "", {}, ((),), form("hard a is x"), 0, True):
                for other in ((), None, [], strikes(201), strikes(1)):
                    refuse_form(self, -1, call, thing, other)
            for thing in THINGS:
                if not alike(thing, ()):
                    refuse_form(self, -1, call, thing, ())

    def test_at_random(self):
        chance = random.Random(35)
        many = {"answers": 0, "lets": 0}
        while many["answers"] < 3000 or many["lets"] < 1500:
            steps = random_form(chance, chance.randrange(6, 20))
            keys = made_rows.keys_asked(steps)
            softs = {check: condition for word, check, condition in made_rows.checks_run(steps) if word == "soft"}
            checks = [*softs, (0, 0), (chance.randrange(60), chance.randrange(5))]
            for _ in range(4):
                entries = random_book(chance, keys, checks, chance.randrange(0, 60))
                self.assertTrue(is_book(entries))
                answers, lets = answers_oracle(keys, entries), lets_oracle(steps, keys, softs, entries)
                self.assertEqual(answers_by(steps, entries), answers)
                self.assertEqual(lets_by(steps, entries), lets)
                self.assertTrue(alike(read_by(steps, entries), read(steps, answers, lets)))
                many["answers"] += len(answers)
                many["lets"] += len(lets)


def counting(keys, entries):
    """The tells and strikes that count, as (stamp, key, whether told, value)."""
    kinds = dict(keys)
    for moment, hand, deed in entries:
        if deed[0] == "strike" and deed[1] in kinds:
            yield (moment, hand), deed[1], False, None
        if deed[0] == "tell" and deed[1] in kinds and made_rows.is_of(kinds[deed[1]], deed[2]):
            yield (moment, hand), deed[1], True, deed[2]


def answers_oracle(keys, entries):
    found = {}
    for key, _ in keys:
        latest = max([deed for deed in counting(keys, entries) if deed[1] == key], key=lambda deed: deed[0], default=None)
        if latest is not None and latest[2]:
            found[key] = latest[3]
    return found


def lets_oracle(steps, keys, softs, entries):
    """Each let alone: no tell, no strike later of a key that its condition, keys in the place of names, holds."""
    made = made_rows.Rows(steps)
    found = set()
    for moment, hand, deed in entries:
        if deed[0] == "let" and deed[1] in softs:
            named = named_keys(made, conditions_of(steps)[deed[1][0]], deed[1][1], keys)
            if not any(stamp > (moment, hand) and key in named for stamp, key, _, _ in counting(keys, entries)):
                found.add(deed[1])
    return tuple(sorted(found))


def conditions_of(steps):
    return [step[1] for step in made_rows.checks_in(steps)]


def named_keys(made, condition, person, keys):
    word = condition[0]
    if word == "not":
        return named_keys(made, condition[1], person, keys)
    if word in ("and", "or"):
        return set().union(*[named_keys(made, part, person, keys) for part in condition[1]])
    if word in ("any", "every"):
        inner = named_keys(made, condition[2], 0, keys)
        return {key for key, _ in keys if key[0] in [name for name, _ in inner]}
    return {(condition[1], person if made.homes[condition[1]] else 0)}
