import copy
import random
import unittest

from askround.asking.made import made, run
from askround.asking.plain import read
from askround.forms.trees import is_form
from tests import made_rows
from tests.chance import random_answers, random_form
from tests.support import THINGS, alike, refuse_form
from tests.test_plain import PARTS, ROUND, answers_of, keys_in
from tests.trees import form

END = ("end",)
XY = ("pick", ("x", "y"))


def key_of(name):
    return (name, 0) if name.isalpha() else (name[:-1], int(name[-1]))


def is_x(name):
    return ("is", key_of(name), "x")


def ask(name, kind=XY):
    return ("ask", key_of(name), kind)


def there(k, question="n"):
    return ("from", (question, 0), k)


class TestMade(unittest.TestCase):
    def assert_made(self, text, *rows):
        steps = form(text)
        self.assertTrue(is_form(steps), text)
        kept = copy.deepcopy(steps)
        self.assertTrue(alike(made(steps), rows), made(steps))
        self.assertTrue(alike(steps, kept))

    def test_asks(self):
        self.assert_made("", END)
        self.assert_made("ask a pick x y", ask("a"), END)
        self.assert_made(
            "ask a some x y / ask b count 3 7 / ask c pick x", ask("a", ("some", ("x", "y"))), ask("b", ("count", 3, 7)), ask("c", ("pick", ("x",))), END
        )

    def test_ifs(self):
        self.assert_made("ask a pick x y / if a is x / ask b pick x y / end", ask("a"), ("unless", is_x("a"), 3), ask("b"), END)
        self.assert_made("ask a pick x y / if a is x / ask b pick x y / end / ask c pick x y", ask("a"), ("unless", is_x("a"), 3), ask("b"), ask("c"), END)
        self.assert_made(
            "ask a pick x y / if a is x / ask b pick x y / else / ask c pick x y / ask d pick x y / end / ask e pick x y",
            ask("a"), ("unless", is_x("a"), 4), ask("b"), ("go", 6), ask("c"), ask("d"), ask("e"), END,
        )
        self.assert_made(
            "ask a pick x y / if a is x / ask b pick x y / else / ask c pick x y / end",
            ask("a"), ("unless", is_x("a"), 4), ask("b"), ("go", 5), ask("c"), END,
        )

    def test_ifs_with_empty_steps(self):
        self.assert_made("ask a pick x y / if a is x / end", ask("a"), ("unless", is_x("a"), 2), END)
        self.assert_made("ask a pick x y / if a is x / else / ask b pick x y / end", ask("a"), ("unless", is_x("a"), 3), ("go", 4), ask("b"), END)
        self.assert_made("ask a pick x y / if a is x / part p / end / end", ask("a"), ("unless", is_x("a"), 2), END)
        # The second steps are there, though none of them makes a row.
        self.assert_made("ask a pick x y / if a is x / else / part p / end / end", ask("a"), ("unless", is_x("a"), 3), ("go", 3), END)

    def test_ifs_in_ifs(self):
        self.assert_made(
            "ask a pick x y / if a is x / if not a is x / ask b pick x y / end / else / if a is x / ask c pick x y / else / ask d pick x y / end / end",
            ask("a"), ("unless", is_x("a"), 5), ("unless", ("not", is_x("a")), 4), ask("b"), ("go", 9), ("unless", is_x("a"), 8), ask("c"), ("go", 9), ask("d"), END,
        )

    def test_parts_and_leaves(self):
        self.assert_made("part p / end", END)
        self.assert_made("part p / ask a pick x y / end / ask b pick x y", ask("a"), ask("b"), END)
        self.assert_made(
            "ask a pick x y / part p / leave p a is x / part q / leave p a is x / leave q a is x / ask b pick x y / end / ask c pick x y / end / ask d pick x y",
            ask("a"), ("when", is_x("a"), 6), ("when", is_x("a"), 6), ("when", is_x("a"), 5), ask("b"), ask("c"), ask("d"), END,
        )
        self.assert_made("ask a pick x y / part p / leave p a is x / end", ask("a"), ("when", is_x("a"), 2), END)

    def test_leaves_out_of_ifs(self):
        self.assert_made(
            "ask a pick x y / part p / if a is x / leave p a is x / ask b pick x y / else / leave p not a is x / end / ask c pick x y / end / ask d pick x y",
            ask("a"), ("unless", is_x("a"), 5), ("when", is_x("a"), 7), ask("b"), ("go", 6), ("when", ("not", is_x("a")), 7), ask("c"), ask("d"), END,
        )

    def test_rounds(self):
        n = ask("n", ("count", 0, 0))
        self.assert_made("ask n count 0 0 / each r n / ask a pick x y / soft a is x / end / soft n from 0", n, ("soft", there(0), (1, 0)), END)
        self.assert_made("ask n count 0 1 / each r n / ask a pick x y / end", ask("n", ("count", 0, 1)), ("unless", there(1), 3), ask("a1"), END)
        self.assert_made("ask n count 1 1 / each r n / end / ask b pick x y", ask("n", ("count", 1, 1)), ("unless", there(1), 2), ask("b"), END)
        # Rows are made for each one that may be there, the least number or not.
        self.assert_made(
            "ask n count 2 4 / each r n / ask a pick x y / hard a is x / end / ask b pick x y", ask("n", ("count", 2, 4)),
            ("unless", there(1), 13), ask("a1"), ("hard", is_x("a1"), (0, 1)), ("unless", there(2), 13), ask("a2"), ("hard", is_x("a2"), (0, 2)),
            ("unless", there(3), 13), ask("a3"), ("hard", is_x("a3"), (0, 3)), ("unless", there(4), 13), ask("a4"), ("hard", is_x("a4"), (0, 4)), ask("b"), END,
        )

    def test_ifs_parts_and_leaves_in_rounds(self):
        self.assert_made(
            "ask g pick x y / ask n count 0 2 / part p / each r n / part q / ask a pick x y / leave q a is x / if ( a is x and g is x ) / leave p g is x / else / ask b pick x y"
            " / end / end / ask c pick x y / end / ask d pick x y / end / ask e pick x y",
            ask("g"), ask("n", ("count", 0, 2)),
            ("unless", there(1), 18), ask("a1"), ("when", is_x("a1"), 9), ("unless", ("and", (is_x("a1"), is_x("g"))), 8), ("when", is_x("g"), 19), ("go", 9), ask("b1"), ask("c1"),
            ("unless", there(2), 18), ask("a2"), ("when", is_x("a2"), 17), ("unless", ("and", (is_x("a2"), is_x("g"))), 16), ("when", is_x("g"), 19), ("go", 17), ask("b2"), ask("c2"),
            ask("d"), ask("e"), END,
        )

    def test_any_and_every(self):
        for high, wanted in (
            (0, ()),
            (1, (("and", (there(1), is_x("a1"))),)),
            (4, (("and", (there(1), is_x("a1"))), ("and", (there(2), is_x("a2"))), ("and", (there(3), is_x("a3"))), ("and", (there(4), is_x("a4"))))),
        ):
            steps = form(f"ask n count 0 {high} / each r n / ask a pick x y / end / hard any r a is x / hard every r a is x")
            self.assertTrue(is_form(steps))
            rows = made(steps)
            self.assertEqual(len(rows), 4 + 2 * high)
            self.assertTrue(alike(rows[-3], ("hard", ("or", wanted), (0, 0))), rows)
            all_of = tuple(("or", (("not", there(k + 1)), is_x(f"a{k + 1}"))) for k in range(high))
            self.assertTrue(alike(rows[-2], ("hard", ("and", all_of), (1, 0))), rows)

    def test_any_and_every_within_other_words(self):
        self.assert_made(
            "ask g pick x y / ask n count 0 1 / each r n / ask a pick x y / end / ask m count 0 2 / each s m / ask b pick x y / end"
            " / soft not ( any r ( a is x or not g is x ) and g is x and every s ( b is x and n to 3 ) )",
            ask("g"), ask("n", ("count", 0, 1)), ("unless", there(1), 4), ask("a1"), ask("m", ("count", 0, 2)),
            ("unless", there(1, "m"), 9), ask("b1"), ("unless", there(2, "m"), 9), ask("b2"),
            ("soft", ("not", ("and", (
                ("or", (("and", (there(1), ("or", (is_x("a1"), ("not", is_x("g")))))),)), is_x("g"),
                ("and", (
                    ("or", (("not", there(1, "m")), ("and", (is_x("b1"), ("to", ("n", 0), 3))))),
                    ("or", (("not", there(2, "m")), ("and", (is_x("b2"), ("to", ("n", 0), 3))))),
                )),
            ))), (0, 0)),
            END,
        )

    def test_two_rounds_of_one_question(self):
        self.assert_made(
            "ask n count 0 1 / each r n / ask a pick x y / end / each s n / ask b pick x y / if b is x / soft n from 1 / end / end / soft any s b is x",
            ask("n", ("count", 0, 1)), ("unless", there(1), 3), ask("a1"), ("unless", there(1), 7), ask("b1"), ("unless", is_x("b1"), 7), ("soft", there(1), (0, 1)),
            ("soft", ("or", (("and", (there(1), is_x("b1"))),)), (1, 0)), END,
        )

    def test_pieces(self):
        self.assert_made(
            "ask a pick x y / ask b some x y / ask c count 0 9 / hard ( a is y or b has x or c from 3 or not c to 5 )",
            ask("a"), ask("b", ("some", ("x", "y"))), ask("c", ("count", 0, 9)),
            ("hard", ("or", (("is", ("a", 0), "y"), ("has", ("b", 0), "x"), ("from", ("c", 0), 3), ("not", ("to", ("c", 0), 5)))), (0, 0)), END,
        )

    def test_checks(self):
        self.assert_made(
            "ask a pick x y / soft a is x / if a is x / hard a is x / else / soft a is x / end / ask n count 0 2 / each r n / part p / soft a is x / end / hard a is x / end / soft a is x",
            ask("a"), ("soft", is_x("a"), (0, 0)), ("unless", is_x("a"), 5), ("hard", is_x("a"), (1, 0)), ("go", 6), ("soft", is_x("a"), (2, 0)), ask("n", ("count", 0, 2)),
            ("unless", there(1), 13), ("soft", is_x("a"), (3, 1)), ("hard", is_x("a"), (4, 1)), ("unless", there(2), 13), ("soft", is_x("a"), (3, 2)), ("hard", is_x("a"), (4, 2)),
            ("soft", is_x("a"), (5, 0)), END,
        )

    def test_what_is_no_form_is_refused(self):
        for thing in THINGS:
            if not alike(thing, ()):
                refuse_form(self, -1, made, thing)
        for thing in (form("hard a is x"), [("ask", "a", XY)], None, made(form("ask a pick x y"))):
            refuse_form(self, -1, made, thing)

    def test_at_random(self):
        chance = random.Random(41)
        seen = {}
        for _ in range(1500):
            steps = random_form(chance, chance.randrange(3, 40))
            rows = made(steps)
            self.assertTrue(alike(rows, tuple(made_rows.Rows(steps).rows)), steps)
            for at, row in enumerate(rows):
                seen[row[0]] = seen.get(row[0], 0) + 1
                if row[0] in ("unless", "when", "go"):
                    self.assertTrue(at < row[-1] < len(rows))
        self.assertGreater(min(seen[word] for word in ("ask", "unless", "when", "go", "hard", "soft", "end")), 200, seen)


class TestRun(unittest.TestCase):
    def assert_run(self, steps, answers, lets=None, all_let=False):
        answers = answers_of(answers) if isinstance(answers, str) else answers
        rows = made(steps)
        kept = copy.deepcopy((rows, answers, lets))
        found = run(rows, answers, lets, all_let)
        self.assertTrue(alike(found, read(steps, answers, lets, all_let)), (steps, answers, lets, found))
        # Rows made once are run again.
        self.assertTrue(alike(run(rows, answers, lets=lets, all_let=all_let), found))
        self.assertTrue(alike(kept, (rows, answers, lets)))
        return found

    def test_rounds_and_parts(self):
        found = self.assert_run(ROUND, "n=2 a1=x a2=y b=x", ((0, 2),))
        self.assertTrue(alike(found, (keys_in("n a1 a2 b"), ((0, 2),), ("soft", (2, 0)))))
        found = self.assert_run(ROUND, "n=2 a1=y a2=y b=x", None, True)
        self.assertTrue(alike(found, (keys_in("n a1 a2 b"), ((0, 1), (0, 2), (2, 0)), ("end",))))
        self.assertTrue(alike(self.assert_run(ROUND, "n=0 b=x"), (keys_in("n b"), (), ("hard", (3, 0)))))
        self.assertTrue(alike(self.assert_run(PARTS, "a=7 b=x d=x"), (keys_in("a b d"), (), ("ask", ("e", 0)))))
        self.assertTrue(alike(self.assert_run((), ""), ((), (), ("end",))))

    def test_what_counts_for_nothing(self):
        steps = form("ask a pick x y / ask n count 0 2 / each r n / ask b some x y / end")
        for key in (("a", 1), ("z", 0), ("r", 0), ("b", 0), ("b", 3), ("a", False), "a", 0, None, ("a",), ("a", 0, 0), ("a", "0"), (("a", 0), 0), ("b", True)):
            self.assertEqual(self.assert_run(steps, {key: "x"}), ((), (), ("ask", ("a", 0))))
            if key != ("a", 0):
                self.assertEqual(self.assert_run(steps, {key: ("x",), ("a", 0): "x", ("n", 0): 1}), (keys_in("a n"), (), ("ask", ("b", 1))))
        for value in ("z", "", ("x",), ["x"], 0, True, None, {}, "xy"):
            self.assertEqual(self.assert_run(steps, {("a", 0): value}), ((), (), ("ask", ("a", 0))))
        for value in (True, False, 3, -1, "1", (1,), None, [], {}):
            self.assertEqual(self.assert_run(steps, {("a", 0): "x", ("n", 0): value})[2], ("ask", ("n", 0)))
        for value in (("y", "x"), ("x", "x"), "x", ["x"], ("z",), 0, None, True):
            self.assertEqual(self.assert_run(steps, {("a", 0): "x", ("n", 0): 1, ("b", 1): value})[2], ("ask", ("b", 1)))

    def test_lets(self):
        steps = form("ask a pick x / hard not a is x / soft not a is x")
        soft = form("ask a pick x / soft a is x / soft not a is x / ask b pick x")
        for lets in ((), ((0, 0),), ((1, 1),), ((2, 0),), ((1, False),), ((True, 0),), ([1, 0],), ((1,),), ((1, 0, 0),), (1,), (None, {}), (("1", 0),), ((59, 4), (60, 0))):
            self.assertEqual(self.assert_run(steps, "a=x b=x", lets)[2], ("hard", (0, 0)))
            self.assertEqual(self.assert_run(soft, "a=x b=x", lets)[2], ("soft", (1, 0)))
        self.assertEqual(self.assert_run(soft, "a=x b=x", ([1, 0], (1, 0), {})), (keys_in("a b"), ((1, 0),), ("end",)))
        self.assertEqual(self.assert_run(steps, "a=x", None, True), (keys_in("a"), (), ("hard", (0, 0))))

    def test_by_place_and_by_name(self):
        rows, answers = made(ROUND), answers_of("n=1 a1=y b=x")
        whole = (keys_in("n a1 b"), ((0, 1), (2, 0)), ("end",))
        for found in (
            run(rows, answers, ((0, 1), (2, 0))), run(rows, answers, lets=((2, 0), (0, 1))), run(rows, answers, None, True), run(rows, answers, all_let=True),
            run(rows, answers, all_let=True, lets=()),
        ):
            self.assertTrue(alike(found, whole))
        self.assertTrue(alike(run(rows, answers), (keys_in("n a1"), (), ("soft", (0, 1)))))

    def test_at_random(self):
        chance = random.Random(42)
        seen = {}
        for _ in range(600):
            steps = random_form(chance, chance.randrange(4, 24))
            keys = made_rows.keys_asked(steps)
            checks = [check for _, check, _ in made_rows.checks_run(steps)]
            for _ in range(6):
                answers = random_answers(chance, keys, chance.choice((0.8, 0.95, 1)))
                lets = tuple(check for check in checks if chance.random() < 0.7)
                found = self.assert_run(steps, answers, lets, chance.random() < 0.3)
                seen[found[2][0]] = seen.get(found[2][0], 0) + 1
                seen["let"] = seen.get("let", 0) + len(found[1])
        self.assertGreater(min(seen[word] for word in ("ask", "hard", "soft", "end", "let")), 150, seen)
