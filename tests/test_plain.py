import copy
import random
import unittest

from askround.asking.plain import read
from askround.forms.trees import is_form, keys_of
from tests import made_rows
from tests.chance import random_answers, random_form
from tests.support import THINGS, alike, refuse_form
from tests.trees import form

ROUND = form(
    "ask n count 0 4 / each r n / ask a pick x y z / soft a is x / hard not a is z / end / ask b pick x / soft every r a is x / hard any r not a is x"
)
PARTS = form(
    "ask a count 0 9 / part p / part q / leave p a from 8 / ask b pick x y / leave q b is x / ask c pick x / end / ask d pick x / end / ask e pick x"
)


def answers_of(text):
    """Answers, written as key=value with blanks between: a=x a1=x b=+x+y n=3."""
    found = {}
    for word in text.split():
        name, value = word.split("=")
        key = (name, 0) if name.isalpha() else (name[:-1], int(name[-1]))
        if value.isdigit():
            found[key] = int(value)
        else:
            found[key] = tuple(value.split("+")[1:]) if value[0] == "+" and value != "+" else () if value == "+" else value
    return found


def keys_in(text):
    return tuple(answers_of(" ".join(word + "=0" for word in text.split())))


class TestRead(unittest.TestCase):
    def assert_read(self, steps, text, taken, let, then, lets=None, all_let=False):
        answers = answers_of(text) if isinstance(text, str) else text
        kept = copy.deepcopy((steps, answers, lets))
        self.assertTrue(is_form(steps))
        found = read(steps, answers, lets, all_let)
        self.assertTrue(alike(found, (keys_in(taken), let, then)), found)
        self.assertTrue(alike(kept, (steps, answers, lets)))
        self.assertTrue(alike(read(steps, answers, lets=lets, all_let=all_let), found))

    def test_asks(self):
        steps = form("ask a pick x y / ask b some x y / ask c count 1 3")
        self.assert_read(steps, "", "", (), ("ask", ("a", 0)))
        self.assert_read(steps, "a=x", "a", (), ("ask", ("b", 0)))
        self.assert_read(steps, "a=x b=+", "a b", (), ("ask", ("c", 0)))
        self.assert_read(steps, "a=x b=+x+y c=3", "a b c", (), ("end",))
        self.assert_read(steps, "c=3 b=+x a=y", "a b c", (), ("end",))
        self.assert_read(steps, "b=+x c=3", "", (), ("ask", ("a", 0)))
        self.assert_read((), "a=x", "", (), ("end",))
        self.assert_read(form("part p / end"), "", "", (), ("end",))

    def test_what_is_no_key_or_no_value_counts_for_nothing(self):
        steps = form("ask a pick x y / ask n count 0 2 / each r n / ask b some x y / end")
        for key in (("a", 1), ("z", 0), ("r", 0), ("b", 0), ("b", 3), ("a", False), "a", 0, None, ("a",), ("a", 0, 0), ("a", "0"), (("a", 0), 0), ("b", True)):
            self.assert_read(steps, {key: "x"}, "", (), ("ask", ("a", 0)))
            if key != ("a", 0):
                self.assert_read(steps, {key: ("x",), ("a", 0): "x", ("n", 0): 1}, "a n", (), ("ask", ("b", 1)))
        self.assert_read(steps, {("n", False): 0, ("a", 0): "x"}, "a", (), ("ask", ("n", 0)))
        self.assert_read(steps, {("a", 0): "x", ("n", 0): 1, ("b", True): ()}, "a n", (), ("ask", ("b", 1)))
        for value in ("z", "", ("x",), ["x"], 0, True, None, {}, "xy"):
            self.assert_read(steps, {("a", 0): value}, "", (), ("ask", ("a", 0)))
        for value in (True, False, 3, -1, "1", (1,), None, [], {}):
            self.assert_read(steps, {("a", 0): "x", ("n", 0): value}, "a", (), ("ask", ("n", 0)))
        for value in (("y", "x"), ("x", "x"), "x", ["x"], ("z",), 0, None, True):
            self.assert_read(steps, {("a", 0): "x", ("n", 0): 1, ("b", 1): value}, "a n", (), ("ask", ("b", 1)))

    def test_ifs(self):
        steps = form("ask a pick x y z / if a is x / ask b pick x / else / ask c pick x / end / if a is y / ask d pick x / end / ask e pick x")
        self.assert_read(steps, "a=x b=x c=x d=x e=x", "a b e", (), ("end",))
        self.assert_read(steps, "a=y b=x c=x d=x e=x", "a c d e", (), ("end",))
        self.assert_read(steps, "a=z b=x c=x d=x e=x", "a c e", (), ("end",))
        self.assert_read(steps, "a=y b=x e=x", "a", (), ("ask", ("c", 0)))
        self.assert_read(form("ask a pick x y / if a is x / end / if a is y / else / ask b pick x / end"), "a=x", "a", (), ("ask", ("b", 0)))

    def test_conditions_hold_by_what_was_taken_till_then(self):
        steps = form("ask a pick x y / if a is x / ask b pick x / end / if b is x / ask c pick x / end / if not b is x / ask d pick x / end")
        self.assert_read(steps, "a=x b=x c=x d=x", "a b c", (), ("end",))
        self.assert_read(steps, "a=y b=x c=x d=x", "a d", (), ("end",))

    def test_parts_left(self):
        self.assert_read(PARTS, "a=8 b=y c=x d=x e=x", "a e", (), ("end",))
        self.assert_read(PARTS, "a=7 b=x c=x d=x e=x", "a b d e", (), ("end",))
        self.assert_read(PARTS, "a=7 b=y c=x d=x e=x", "a b c d e", (), ("end",))
        self.assert_read(PARTS, "a=9", "a", (), ("ask", ("e", 0)))

    def test_a_part_left_out_of_ifs_goes_on_behind_it(self):
        steps = form(
            "ask a pick x y / part p / if a is x / if a is x / leave p a is x / ask b pick x / end / ask c pick x / else / leave p a is x / ask d pick x / end"
            " / ask e pick x / end / ask f pick x"
        )
        self.assert_read(steps, "a=x b=x c=x d=x e=x f=x", "a f", (), ("end",))
        self.assert_read(steps, "a=y b=x c=x d=x e=x f=x", "a d e f", (), ("end",))

    def test_a_part_left_out_of_a_round(self):
        steps = form(
            "ask n count 0 4 / part p / each r n / ask a pick x y / leave p a is x / ask b pick x / end / ask c pick x / end / ask d pick x / hard every r b is x"
        )
        self.assert_read(steps, "n=3 a1=y b1=x a2=x b2=x a3=y b3=x c=x d=x", "n a1 b1 a2 d", (), ("hard", (0, 0)))
        self.assert_read(steps, "n=1 a1=y b1=x c=x d=x", "n a1 b1 c d", (), ("end",))
        self.assert_read(steps, "n=0 c=x d=x", "n c d", (), ("end",))

    def test_a_part_in_a_round_is_left_for_one_person(self):
        steps = form("ask n count 0 4 / each r n / part p / ask a pick x y / leave p a is x / ask b pick x / end / ask c pick x / end / ask d pick x")
        self.assert_read(steps, "n=2 a1=x b1=x c1=x a2=y b2=x c2=x d=x", "n a1 c1 a2 b2 c2 d", (), ("end",))

    def test_rounds(self):
        steps = form("ask n count 0 4 / each r n / ask a pick x / ask b pick x / end / ask c pick x")
        told = "a1=x b1=x a2=x b2=x a3=x b3=x a4=x b4=x c=x"
        for many, taken in ((0, "n c"), (1, "n a1 b1 c"), (2, "n a1 b1 a2 b2 c"), (4, "n a1 b1 a2 b2 a3 b3 a4 b4 c")):
            self.assert_read(steps, f"n={many} " + told, taken, (), ("end",))
        self.assert_read(steps, "n=4 a1=x b1=x a2=x a3=x b3=x", "n a1 b1 a2", (), ("ask", ("b", 2)))

    def test_two_rounds_of_one_question(self):
        steps = form("ask n count 0 2 / each r n / ask a pick x y / end / each s n / ask b pick x / hard b is x / end / hard any r a is y")
        self.assert_read(steps, "n=2 a1=x a2=y b1=x b2=x", "n a1 a2 b1 b2", (), ("end",))
        self.assert_read(steps, "n=2 a1=x a2=x b1=x b2=x", "n a1 a2 b1 b2", (), ("hard", (1, 0)))

    def test_conditions_in_a_round_ask_the_person(self):
        steps = form("ask g pick x y / ask n count 0 4 / each r n / ask a pick x y / if ( a is x and g is x ) / ask b pick x / else / ask c pick x / end / end")
        told = " n=3 a1=x a2=y a3=x b1=x b2=x b3=x c1=x c2=x c3=x"
        self.assert_read(steps, "g=x" + told, "g n a1 b1 a2 c2 a3 b3", (), ("end",))
        self.assert_read(steps, "g=y" + told, "g n a1 c1 a2 c2 a3 c3", (), ("end",))

    def test_a_question_that_was_not_taken(self):
        steps = form(
            "ask g pick x y / if g is x / ask n count 2 4 / end / each r n / ask a pick x / end / if any r g is y / ask b pick x / else / ask c pick x / end"
            " / if every r g is x / ask d pick x / end"
        )
        self.assert_read(steps, "g=y n=2 a1=x a2=x b=x c=x d=x", "g c d", (), ("end",))
        self.assert_read(steps, "g=x n=2 a1=x a2=x b=x c=x d=x", "g n a1 a2 c d", (), ("end",))

    def test_folk_of_a_round_that_is_not_come_to(self):
        steps = form(
            "ask n count 0 4 / ask g pick x y / if g is x / each r n / ask a pick x y / end / end / if any r g is y / ask b pick x / end"
            " / if every r a is x / ask c pick x / end / if every r not a is x / ask d pick x / end"
        )
        self.assert_read(steps, "n=2 g=y a1=x a2=x b=x c=x d=x", "n g b d", (), ("end",))
        self.assert_read(steps, "n=0 g=y b=x c=x d=x", "n g c d", (), ("end",))
        self.assert_read(steps, "n=2 g=x a1=x a2=x b=x c=x d=x", "n g a1 a2 c", (), ("end",))

    def test_folk_of_a_round_in_a_part_that_was_left(self):
        steps = form("ask n count 0 4 / part p / leave p n from 2 / each r n / ask a pick x / end / end / hard every r a is x")
        self.assert_read(steps, "n=2 a1=x a2=x", "n", (), ("hard", (0, 0)))
        self.assert_read(steps, "n=1 a1=x a2=x", "n a1", (), ("end",))

    def test_hards_and_softs(self):
        steps = form("ask a pick x y / hard a is x / ask b pick x y / soft b is x / ask c pick x")
        self.assert_read(steps, "a=y b=x c=x", "a", (), ("hard", (0, 0)))
        self.assert_read(steps, "a=y b=x c=x", "a", (), ("hard", (0, 0)), ((0, 0),))
        self.assert_read(steps, "a=y b=x c=x", "a", (), ("hard", (0, 0)), None, True)
        self.assert_read(steps, "a=x b=y c=x", "a b", (), ("soft", (1, 0)))
        self.assert_read(steps, "a=x b=y c=x", "a b c", ((1, 0),), ("end",), ((1, 0),))
        self.assert_read(steps, "a=x b=y c=x", "a b c", ((1, 0),), ("end",), (), True)
        self.assert_read(steps, "a=x b=x c=x", "a b c", (), ("end",), ((1, 0),), True)
        self.assert_read(steps, "a=x b=y", "a b", ((1, 0),), ("ask", ("c", 0)), ((1, 0), (1, 0)))

    def test_softs_and_hards_in_a_round(self):
        self.assert_read(ROUND, "n=2 a1=x a2=y b=x", "n a1 a2", (), ("soft", (0, 2)))
        self.assert_read(ROUND, "n=2 a1=y a2=y b=x", "n a1", (), ("soft", (0, 1)))
        self.assert_read(ROUND, "n=2 a1=y a2=y b=x", "n a1 a2", ((0, 1),), ("soft", (0, 2)), ((0, 1),))
        self.assert_read(ROUND, "n=2 a1=x a2=z b=x", "n a1 a2", ((0, 2),), ("hard", (1, 2)), ((0, 2), (1, 2)))
        self.assert_read(ROUND, "n=2 a1=x a2=y b=x", "n a1 a2 b", ((0, 2),), ("soft", (2, 0)), ((0, 2),))
        self.assert_read(ROUND, "n=2 a1=x a2=y b=x", "n a1 a2 b", ((0, 2), (2, 0)), ("end",), ((2, 0), (0, 2)))
        self.assert_read(ROUND, "n=2 a1=y a2=y b=x", "n a1 a2 b", ((0, 1), (0, 2), (2, 0)), ("end",), None, True)
        self.assert_read(ROUND, "n=2 a1=x a2=x b=x", "n a1 a2 b", (), ("hard", (3, 0)), None, True)
        self.assert_read(ROUND, "n=0 b=x", "n b", (), ("hard", (3, 0)))

    def test_lets_of_what_is_no_soft_count_for_nothing(self):
        steps = form("ask a pick x / hard not a is x / soft not a is x")
        soft = form("ask a pick x / soft a is x / soft not a is x")
        for lets in ((), ((0, 0),), ((1, 1),), ((2, 0),), ((1, False),), ((True, 0),), ([1, 0],), ((1,),), ((1, 0, 0),), (1,), (None, {}), (("1", 0),), ((1, "0"),),
                     (((1, 0),),), ((59, 4), (60, 0))):
            self.assert_read(steps, "a=x", "a", (), ("hard", (0, 0)), lets)
            self.assert_read(soft, "a=x", "a", (), ("soft", (1, 0)), lets)
        self.assert_read(soft, "a=x", "a", ((1, 0),), ("end",), ([1, 0], (True, 0), (1, 0)))

    def test_checks_are_numbered_in_the_order_of_rows(self):
        steps = form(
            "ask a pick x y / if a is x / soft a is y / part p / soft a is y / end / else / soft a is x / ask n count 0 0 / each r n / soft a is x / end"
            " / end / soft ( a is x and a is y ) / hard ( a is x and a is y )"
        )
        self.assert_read(steps, "a=x", "a", ((0, 0), (1, 0), (4, 0)), ("hard", (5, 0)), None, True)
        self.assert_read(steps, "a=y n=0", "a n", ((2, 0), (4, 0)), ("hard", (5, 0)), None, True)
        alike_ones = (("ask", "a", ("pick", ("x",))),) + (("soft", ("not", ("is", "a", "x"))),) * 59
        self.assert_read(alike_ones, "a=x", "a", tuple((k, 0) for k in range(59)), ("end",), None, True)
        self.assert_read(alike_ones, "a=x", "a", tuple((k, 0) for k in range(58)), ("soft", (58, 0)), tuple((k, 0) for k in range(58)))

    def test_by_place_and_by_name(self):
        answers = answers_of("n=1 a1=y b=x")
        whole = (keys_in("n a1 b"), ((0, 1), (2, 0)), ("end",))
        self.assertEqual(read(ROUND, answers, ((0, 1), (2, 0))), whole)
        self.assertEqual(read(ROUND, answers, lets=((0, 1), (2, 0))), whole)
        self.assertEqual(read(ROUND, answers, None, True), whole)
        self.assertEqual(read(ROUND, answers, all_let=True), whole)
        self.assertEqual(read(ROUND, answers, all_let=True, lets=()), whole)
        self.assertEqual(read(ROUND, answers), (keys_in("n a1"), (), ("soft", (0, 1))))

    def test_what_is_no_form_is_refused(self):
        for thing in THINGS:
            if not alike(thing, ()):
                refuse_form(self, -1, read, thing, {})
        for thing in (form("hard a is x"), form("ask a pick x / ask a pick x"), [("ask", "a", ("pick", ("x",)))]):
            refuse_form(self, -1, read, thing, {("a", 0): "x"}, ((0, 0),), True)

    def test_as_leaping_rows_ask(self):
        chance = random.Random(33)
        seen = {}
        for _ in range(1200):
            steps = random_form(chance, chance.randrange(4, 24))
            keys = made_rows.keys_asked(steps)
            self.assertEqual(keys_of(steps), tuple(key for key, _ in keys))
            checks = [check for _, check, _ in made_rows.checks_run(steps)]
            for _ in range(8):
                answers = random_answers(chance, keys, chance.choice((0.8, 0.95, 1)))
                lets = tuple(check for check in checks if chance.random() < 0.7)
                all_let = chance.random() < 0.3
                found = read(steps, answers, lets, all_let)
                self.assertTrue(alike(found, made_rows.run(steps, answers, lets, all_let)), (steps, answers, lets))
                seen[found[2][0]] = seen.get(found[2][0], 0) + 1
                seen["let"] = seen.get("let", 0) + len(found[1])
        self.assertGreater(min(seen[word] for word in ("ask", "hard", "soft", "end", "let")), 300, seen)
