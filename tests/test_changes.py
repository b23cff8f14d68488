import copy
import random
import unittest

from askround.asking.pairs import two_forms
from askround.asking.plain import read
from askround.book.changes import carried
from askround.book.entries import answers_by, is_book, read_by
from askround.errors import CannotGo, NoBook, NoNames
from askround.forms.trees import is_form
from tests import made_rows
from tests.chance import random_book, random_form
from tests.rewrites import changed, other_form
from tests.support import THINGS, TOP, alike, refuse, refuse_form
from tests.test_entries import answers_oracle, book, counting, key_in, lets_oracle, strikes
from tests.test_states import small_form
from tests.trees import form

ABC = "ask a pick x y / ask b some x y / ask c count 0 9"
ROUND = "ask n count 0 3 / each r n / ask a pick x y / ask b count 0 9 / end / ask d pick x y"

NO_NAMES = [
    [], [("a", "b")], (["a", "b"],), ("a", "b"), (("a",),), (("a", "b", "c"),), (("a", "b"), ()), (("a", "b"), None), {}, {"a": "b"}, "ab", ("ab",), 0, False, True,
    (("a", ""),), (("", "a"),), (("A", "b"),), (("a", "B"),), (("is", "b"),), (("a", "ask"),), (("abcdefghi", "b"),), (("a", 0),), ((0, "a"),), ((("a", 0), ("b", 0)),), (("a", None),), ((None, "a"),),
    (("a", True),), (("a", ["b"]),), (("a", "b c"),), (("a", "b"), ("a", "c")), (("a", "b"), ("c", "b")), (("a", "b"), ("a", "b")), (("a", "b"), ("c", "d"), ("a", "e")), (("a", "b"), ("c", "d"), ("e", "b")),
    (("a", "a"), ("a", "b")), (("a", "b"), ("b", "b")),
]

NO_FORMS = (None, [], "", {}, ((),), form("hard a is x"), 0, True, list(form(ABC)), (("ask", "a", ("pick", ["x"])),))
NO_BOOKS = (None, [], "", {}, strikes(201), strikes(1) + strikes(1), list(strikes(1)), strikes(1)[0], 0, True, ((0, "a", ("tell", ("a", 0), True)),))


def steps_of(steps):
    return form(steps) if isinstance(steps, str) else steps


def names_of(text):
    """Names, written as old>new with blanks between."""
    return tuple(tuple(word.split(">")) for word in text.split())


def rename(steps, news):
    """The steps, names of asks put in the place of others wherever they stand."""
    made = []
    for step in steps:
        parts = []
        for at, part in enumerate(step):
            if at == 1 and step[0] == "ask" or at == 2 and step[0] == "each":
                part = news.get(part, part)
            elif at and isinstance(part, tuple) and step[0] != "ask":
                part = rename_condition(part, news) if part and isinstance(part[0], str) else rename(part, news)
            parts.append(part)
        made.append(tuple(parts))
    return tuple(made)


def rename_condition(condition, news):
    word = condition[0]
    if word == "not":
        return (word, rename_condition(condition[1], news))
    if word in ("and", "or"):
        return (word, tuple(rename_condition(part, news) for part in condition[1]))
    if word in ("any", "every"):
        return (*condition[:2], rename_condition(condition[2], news))
    return (word, news.get(condition[1], condition[1]), condition[2])


def carried_oracle(old, entries, new, names):
    """What is carried, or the key that can't go, each answer looked at alone."""
    keys, kinds = made_rows.keys_asked(old), dict(made_rows.keys_asked(new))
    going, stuck = [], []
    for key, _ in keys:
        told = sorted(deed for deed in counting(keys, entries) if deed[1] == key)
        if told and told[-1][2]:
            (moment, hand), _, _, value = told[-1]
            aims = [to for start, to in names if start == key[0]]
            if not aims and key[0] not in [to for _, to in names]:
                aims = [key[0]]
            if aims and (aims[0], key[1]) in kinds and made_rows.is_of(kinds[(aims[0], key[1])], value):
                going.append((moment, hand, ("tell", (aims[0], key[1]), value)))
            else:
                stuck.append(key)
    softs = {check: condition for word, check, condition in made_rows.checks_run(old) if word == "soft"}
    taken = made_rows.run(old, answers_oracle(keys, entries), lets_oracle(old, keys, softs, entries), False)[0]
    return tuple(sorted(going, key=lambda entry: entry[:2])), [key for key in taken if key in stuck]


class TestCarried(unittest.TestCase):
    def assert_carried(self, old, text, new, wanted, names=None):
        """Carried is what is wanted, each entry with the moment that it has in the text."""
        old, new = steps_of(old), steps_of(new)
        self.assertTrue(is_form(old) and is_form(new))
        entries = book(text) if isinstance(text, str) else text
        for handed in (entries, entries[::-1]):
            kept = copy.deepcopy((old, handed, new, names))
            found = carried(old, handed, new, names)
            self.assertTrue(alike(kept, (old, handed, new, names)))
            self.assertTrue(is_book(found))
            self.assertTrue(alike(found, wanted if isinstance(wanted, tuple) else self.told(wanted)), found)
            self.assertTrue(alike(carried(old, handed, new, names=names), found))
        if names is None:
            self.assertTrue(alike(carried(old, entries, new), found))
            self.assertTrue(alike(carried(old, entries, new, ()), found))

    def told(self, text):
        """Entries, written as the moment, a colon and what is told there."""
        found = []
        for word in text.split():
            moment, _, deed = word.partition(":")
            found.append((int(moment), "a", book(deed)[0][2]))
        return tuple(found)

    def assert_stuck(self, old, text, new, key, names=None):
        old, new = steps_of(old), steps_of(new)
        for entries in (book(text), book(text)[::-1]):
            refused = refuse(self, CannotGo, carried, old, entries, new, names)
            self.assertTrue(alike(refused.key, key_in(key)), refused.key)

    def test_to_itself(self):
        self.assert_carried(ABC, "", ABC, "")
        self.assert_carried(ABC, "a=x b=+y c=3", ABC, "0:a=x 1:b=+y 2:c=3")
        self.assert_carried(ABC, "c=3 b=+ a=y", ABC, "0:c=3 1:b=+ 2:a=y")
        self.assert_carried((), "a=x", (), "")
        self.assert_carried((), "", ABC, "")
        self.assert_carried(ROUND, "n=2 a1=x a2=y b1=0 b2=9 d=x", ROUND, "0:n=2 1:a1=x 2:a2=y 3:b1=0 4:b2=9 5:d=x")

    def test_only_tells_that_stand(self):
        soft = "ask a pick x y / ask b some x y / soft a is x / soft b has x / ask c count 0 9"
        self.assert_carried(soft, "a=x a=y b=+x !0 c=1 -c !1 b=+y", soft, "1:a=y 7:b=+y")
        self.assert_carried(soft, "a=x -a", soft, "")
        self.assert_carried(soft, "-a a=x", soft, "1:a=x")
        self.assert_carried(soft, "a=x a=x a=x", soft, "2:a=x")
        self.assert_carried(soft, "a=y !0 -b", soft, "0:a=y")
        # What counts for nothing by the old form counts for nothing, whatever the new one makes of it.
        self.assert_carried(ABC, "a=x a=z z=x a1=x b=+y+x c=10", "ask a pick x y z / ask b some y x / ask c count 0 10 / ask z pick x", "0:a=x")

    def test_stamps(self):
        entries = ((9, "b", ("tell", ("b", 0), ("x",))), (10, "a", ("tell", ("a", 0), "x")), (9, "a", ("tell", ("c", 0), 1)), (0, "z", ("tell", ("a", 0), "y")), (10 ** 6, "zz", ("let", (0, 0))))
        self.assert_carried(ABC, entries, ABC, (entries[2], entries[0], entries[1]))
        moved = tuple((*entry[:2], ("tell", ({"a": "c", "b": "a", "c": "b"}[entry[2][1][0]], 0), entry[2][2])) for entry in (entries[2], entries[0], entries[1]))
        self.assert_carried(ABC, entries, "ask a some x y / ask b count 0 9 / ask c pick x y", moved, names_of("a>c b>a c>b"))

    def test_asks_more_and_fewer(self):
        self.assert_carried(ABC, "a=x b=+y c=3", ABC + " / ask d pick x", "0:a=x 1:b=+y 2:c=3")
        self.assert_carried(ABC, "a=x b=+y c=3", "ask d pick x / ask c count 0 9 / ask b some x y / ask a pick x y", "0:a=x 1:b=+y 2:c=3")
        for gone, rest in (("a", "ask b some x y / ask c count 0 9"), ("b", "ask a pick x y / ask c count 0 9"), ("c", "ask a pick x y / ask b some x y")):
            self.assert_stuck(ABC, "a=x b=+y c=3", rest, gone)
        self.assert_carried(ABC, "b=+y c=3", "ask a pick x y", "")
        self.assert_carried(ABC, "a=x c=3", "ask a pick x y", "0:a=x")
        self.assert_stuck(ABC, "a=x b=+ c=3", "ask c count 0 9", "a")
        self.assert_stuck(ABC, "c=3 b=+ a=x", (), "a")

    def test_kinds_widened_and_narrowed(self):
        wider = "ask a pick z y x / ask b some x z y / ask c count 0 1000000"
        self.assert_carried(ABC, "a=y b=+x+y c=9", wider, "0:a=y 1:b=+x+y 2:c=9")
        for narrow, key in (("ask a pick x", "a"), ("ask b some x", "b"), ("ask b some y x", "b"), ("ask c count 0 8", "c"), ("ask c count 3 9", "c"), ("ask a some x y", "a"), ("ask b pick x y", "b"), ("ask c pick x", "c")):
            steps = [narrow if row[:5] == narrow[:5] else row for row in ABC.split(" / ")]
            self.assert_stuck(ABC, "a=y b=+x+y c=2" if narrow == "ask c count 3 9" else "a=y b=+x+y c=9", " / ".join(steps), key)
        self.assert_carried(ABC, "a=x b=+y c=8", "ask a pick x / ask b some y / ask c count 8 8", "0:a=x 1:b=+y 2:c=8")
        self.assert_carried(ABC, "a=x b=+ c=8", "ask a pick x / ask b some z / ask c count 8 8", "0:a=x 1:b=+ 2:c=8")

    def test_into_and_out_of_rounds(self):
        flat = "ask n count 0 3 / ask a pick x y / ask b count 0 9 / ask d pick x y"
        self.assert_stuck(ROUND, "n=1 a1=x b1=2 d=x", flat, "a1")
        self.assert_carried(ROUND, "n=0 a1=x b1=2 d=x", flat, "0:n=0 3:d=x")
        self.assert_stuck(flat, "n=1 a=x b=2 d=y", ROUND, "a")
        self.assert_carried(flat, "n=1 d=y b=2", ROUND, "0:n=1 1:d=y")
        self.assert_stuck(ROUND, "n=1 a1=x b1=2 d=x", "ask n count 0 3 / ask d pick x y / each r n / ask b count 0 9 / end", "a1")
        self.assert_carried(ROUND, "n=1 a1=x b1=2 d=x", "ask k count 0 1 / ask n count 0 3 / ask d pick x y / each q k / ask a pick x y / ask b count 0 9 / end", "0:n=1 1:a1=x 2:b1=2 3:d=x")
        self.assert_stuck(ROUND, "n=0 d=x", "ask n count 0 3 / each r n / ask a pick x y / ask b count 0 9 / ask d pick x y / end", "d")

    def test_rounds_of_another_high(self):
        lower, higher = ROUND.replace("0 3", "0 1"), ROUND.replace("0 3", "0 4")
        full = "n=1 a1=x b1=1 a2=x b2=2 a3=y d=x"
        self.assert_carried(ROUND, full, higher, "0:n=1 1:a1=x 2:b1=1 3:a2=x 4:b2=2 5:a3=y 6:d=x")
        self.assert_carried(ROUND, full, lower, "0:n=1 1:a1=x 2:b1=1 6:d=x")
        self.assert_stuck(ROUND, full.replace("n=1", "n=2"), lower, "n")
        # Only what stands by the old form goes: there is no person 4 there.
        self.assert_carried(ROUND, "a4=x b4=1", higher, "")
        self.assert_stuck(ROUND, "n=2 a1=x b1=1 a2=x b2=2 d=x", "ask n count 0 3 / ask k count 0 1 / each r k / ask a pick x y / ask b count 0 9 / end / ask d pick x y", "a2")

    def test_names(self):
        self.assert_carried(ABC, "a=x b=+y c=3", "ask k pick x y / ask b some x y / ask c count 0 9", "0:k=x 1:b=+y 2:c=3", names_of("a>k"))
        self.assert_carried("ask a pick x y / ask b pick x y", "a=x b=y", "ask a pick x y / ask b pick x y", "0:b=x 1:a=y", names_of("a>b b>a"))
        self.assert_carried("ask a pick x / ask b pick x / ask c pick x", "a=x b=x c=x", "ask a pick x / ask b pick x / ask c pick x", "0:b=x 1:c=x 2:a=x", names_of("a>b b>c c>a"))
        self.assert_carried(ROUND, "n=1 a1=x b1=2 d=x", "ask k count 0 3 / each r k / ask d pick x y / ask b count 0 9 / end / ask a pick x y", "0:k=1 1:d1=x 2:b1=2 3:a=x", names_of("n>k a>d d>a"))
        self.assert_carried(ABC, "a=x b=+y c=3", ABC, "0:a=x 1:b=+y 2:c=3", names_of("a>a b>b"))

    def test_a_name_that_stays_goes_nowhere_where_it_is_a_new(self):
        two = "ask a pick x y / ask b pick x y"
        self.assert_stuck(two, "a=x b=y", two, "b", names_of("a>b"))
        self.assert_carried(two, "b=y", two, "", names_of("a>b"))
        self.assert_carried("ask a pick x y / if a is x / ask b pick x y / end", "a=y b=y", "ask b pick x y", "0:b=y", names_of("a>b"))
        # Though the old is no ask, and though it is one that doesn't stand.
        self.assert_stuck(two, "a=x b=y", two, "b", names_of("z>b"))
        self.assert_stuck("ask b pick x y / ask a pick x y", "b=y", two, "b", names_of("a>b"))
        self.assert_stuck(two, "a=x b=y", two, "a", names_of("z>a y>b"))

    def test_olds_and_news_of_no_ask(self):
        self.assert_carried(ABC, "a=x b=+y c=3", ABC, "0:a=x 1:b=+y 2:c=3", names_of("u>v v>w n>u"))
        self.assert_stuck(ABC, "a=x b=+y c=3", ABC, "a", names_of("a>v"))
        self.assert_stuck(ABC, "a=x b=+y c=3", ABC, "b", names_of("a>a b>v"))
        # Names of rounds and parts are none of asks.
        self.assert_carried(ROUND, "n=1 a1=x", ROUND, "0:n=1 1:a1=x", names_of("r>q"))
        self.assert_stuck(ROUND, "n=1 a1=x", ROUND, "a1", names_of("a>r"))
        many = tuple((first + second + "q", second + first + "q") for first in "abcdefghijklm" for second in "nopqrstuvwxyz")
        self.assert_carried(ABC, "a=x b=+y c=3", ABC, "0:a=x 1:b=+y 2:c=3", many)

    def test_the_first_taken_that_cannot_go(self):
        three = "ask c pick x y / ask a pick x y / ask b pick x y"
        self.assert_stuck(three, "a=x b=x c=x", "ask d pick x", "c")
        self.assert_stuck(three, "a=x b=x c=x", "ask c pick x", "a")
        self.assert_stuck(three, "b=x a=x c=x", "ask a pick x / ask c pick x", "b")
        # Others stand, too, but aren't taken: the first isn't asked, or nothing behind an ask without an answer.
        branch = "ask c pick x y / if c is x / ask a pick x y / else / ask b pick x y / end / ask d pick x y / ask e pick x y"
        self.assert_stuck(branch, "a=x b=x c=y e=x", "ask c pick x y", "b")
        self.assert_carried(branch, "a=x b=x c=y e=x", "ask c pick x y / ask b pick x", "1:b=x 2:c=y")
        self.assert_stuck(branch, "a=x b=x c=y d=x e=x", "ask c pick x y / ask b pick x", "d")
        self.assert_stuck(branch, "d=x c=y b=x a=x", "ask a pick x / ask b pick x / ask d pick x", "c")
        # It is the old key that is kept, not the new one.
        self.assert_stuck(three, "c=x a=x", "ask a pick x y / ask b pick x y", "c", names_of("c>d a>b b>a"))
        self.assert_stuck(ROUND, "n=2 a1=x b1=1 a2=y b2=2", ROUND.replace("x y", "x"), "a2")

    def test_taken_by_what_stands_and_holds(self):
        soft = "ask a pick x y / soft a is x / ask b pick x y"
        self.assert_carried(soft, "a=y b=x", "ask a pick x y", "0:a=y")
        self.assert_carried(soft, "!0 a=y b=x", "ask a pick x y", "1:a=y")
        self.assert_stuck(soft, "a=y b=x !0", "ask a pick x y", "b")
        self.assert_stuck(soft, "a=x b=x", "ask a pick x y", "b")
        self.assert_carried(soft.replace("soft", "hard"), "a=y b=x", "ask a pick x y", "0:a=y")

    def test_to_a_form_alike_at_random(self):
        chance = random.Random(101)
        alikes = 0
        while alikes < 150:
            steps = small_form(chance, 12)
            other, surely = other_form(chance, steps)
            if not surely and two_forms(steps, other)[0] != "alike":
                continue
            alikes += 1
            checks = [(0, 0), *[check for _, check, _ in made_rows.checks_run(steps)]]
            for _ in range(4):
                entries = random_book(chance, made_rows.keys_asked(steps) or [(("a", 0), ("pick", ("x",)))], checks, chance.randrange(0, 40))
                found = carried(steps, entries, other)
                reads = [read(one, answers_by(one, told), None, True) for one, told in ((steps, entries), (other, found))]
                self.assertEqual(reads[0][0], reads[1][0])
                self.assertEqual(reads[0][2][0], reads[1][2][0])
                if reads[0][2][0] == "ask":
                    self.assertEqual(reads[0][2], reads[1][2])

    def test_by_names_of_all_asks_at_random(self):
        chance = random.Random(102)
        for _ in range(100):
            steps = random_form(chance, chance.randrange(6, 20))
            asks = sorted({key[0] for key, _ in made_rows.keys_asked(steps)} | {row[1] for row in all_asks(steps)})
            names = tuple(zip(asks, chance.sample(asks, len(asks))))
            other = rename(steps, dict(names))
            self.assertTrue(is_form(other))
            keys = made_rows.keys_asked(steps) or [(("a", 0), ("pick", ("x",)))]
            entries = random_book(chance, keys, [(0, 0)], chance.randrange(0, 40))
            found = carried(steps, entries, other, names)
            renamed = {(dict(names)[name], person): value for (name, person), value in answers_by(steps, entries).items()}
            self.assertEqual(answers_by(other, found), renamed)
            self.assertEqual(len(found), len(renamed))

    def test_at_random(self):
        chance = random.Random(103)
        seen = {"stuck": 0, "carried": 0, "left out": 0}
        while min(seen.values()) < 300:
            steps = random_form(chance, chance.randrange(4, 16))
            other = changed(chance, changed(chance, steps)) if len(steps) > 2 else steps
            if chance.random() < 0.2:
                other = steps
            asks = [row[1] for row in (*all_asks(steps), *all_asks(other))]
            if not is_form(other) or not made_rows.keys_asked(steps):
                continue
            checks = [(0, 0), *[check for _, check, _ in made_rows.checks_run(steps)]]
            entries = random_book(chance, made_rows.keys_asked(steps), checks, chance.randrange(0, 50))
            names = ()
            if chance.random() < 0.4:
                some = sorted(set(asks))
                many = chance.randrange(0, min(4, len(some)) + 1)
                names = tuple(zip(chance.sample(some, many), chance.sample(some, many)))
            found, stuck = carried_oracle(steps, entries, other, names)
            if stuck:
                self.assertTrue(alike(refuse(self, CannotGo, carried, steps, entries, other, names).key, stuck[0]))
                seen["stuck"] += 1
            else:
                self.assertTrue(alike(carried(steps, entries, other, names), found))
                seen["carried"] += len(found)
                seen["left out"] += len(answers_by(steps, entries)) > len(found)

    def test_two_hundred(self):
        tells = tuple((moment, "a", ("tell", ("a", 0), "x")) for moment in range(200))
        self.assert_carried("ask a pick x", tells, "ask a pick x", tells[-1:])

    def test_told_may_be_handed_on(self):
        found = carried(form(ABC), book("a=x b=+y c=3"), form("ask a pick x y / ask b some x y / ask c count 0 9 / ask d pick x"))
        self.assertEqual(read_by(form(ABC), found)[2], ("end",))
        self.assertTrue(alike(carried(form(ABC), found, form(ABC)), found))


def all_asks(steps):
    """All ask steps, those of rounds without folk, too."""
    found = []
    for step in steps:
        if step[0] == "ask":
            found.append(step)
        for part in step[1:]:
            if step[0] in ("if", "part", "each") and isinstance(part, tuple) and part and isinstance(part[0], tuple):
                found.extend(all_asks(part))
    return found


class TestRefusals(unittest.TestCase):
    def test_each_alone(self):
        steps = form(ABC)
        for thing in THINGS:
            if not alike(thing, ()):
                refuse_form(self, -1, carried, thing, (), steps)
                refuse(self, NoBook, carried, steps, thing, steps)
                refuse_form(self, -1, carried, steps, (), thing)
                if thing is not None:
                    refuse(self, NoNames, carried, steps, (), steps, thing)
        for thing in NO_FORMS:
            refuse_form(self, -1, carried, thing, (), steps)
            refuse_form(self, -1, carried, steps, (), thing)
        for thing in NO_BOOKS:
            refuse(self, NoBook, carried, steps, thing, steps)
        for thing in NO_NAMES:
            refuse(self, NoNames, carried, steps, (), steps, thing)
            refuse(self, NoNames, carried, steps, (), steps, names=thing)
        for name in (TOP, "x" * 4000, "a b", "a>b"):
            refuse(self, NoNames, carried, steps, (), steps, (("a", name),))
            refuse(self, NoNames, carried, steps, (), steps, ((name, "a"),))

    def test_in_their_order(self):
        steps, gone, entries = form(ABC), form("ask b some x y"), book("a=x")
        for names in (None, (), NO_NAMES[0]):
            for other in (steps, gone, *NO_FORMS):
                for told in ((), entries, *NO_BOOKS):
                    for thing in NO_FORMS:
                        refuse_form(self, -1, carried, thing, told, other, names)
                for told in NO_BOOKS:
                    refuse(self, NoBook, carried, steps, told, other, names)
            for other in NO_FORMS:
                refuse_form(self, -1, carried, steps, entries, other, names)
        for names in NO_NAMES:
            refuse(self, NoNames, carried, steps, entries, gone, names)
            refuse(self, NoNames, carried, steps, entries, steps, names)
        self.assertEqual(refuse(self, CannotGo, carried, steps, entries, gone).key, ("a", 0))
