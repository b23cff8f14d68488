import itertools
import unittest

from askround.errors import NoKind, NoValue
from askround.words.kinds import (
    WORDS, is_kind, is_name, is_value, kind_text, read_kind, read_value, value_text,
)
from tests.support import THINGS, TOP, alike, answer_truth, refuse

TEXT_OF_WORDS = (
    "ask pick some count if else end part leave each hard soft is has from to not and or any every"
)
SIX = ("a", "b", "c", "d", "e", "f")
KINDS = [
    ("pick", ("a",)), ("pick", ("b", "a")), ("pick", SIX), ("pick", ("abcdefgh", "z")),
    ("some", ("a",)), ("some", ("b", "a")), ("some", SIX),
    ("count", 0, 0), ("count", 0, 1), ("count", 3, 7), ("count", 0, 10 ** 6), ("count", 10 ** 6, 10 ** 6),
]
NO_KINDS = [
    ("pick", ()), ("pick", SIX + ("g",)), ("pick", ("a", "a")), ("pick", ("a", "b", "a")), ("pick", ("ask",)),
    ("pick", ("a", "every")), ("pick", ("A",)), ("pick", ("",)), ("pick", ("abcdefghi",)), ("pick", ("a b",)),
    ("pick", ["a"]), ["pick", ("a",)], ("pick", "a"), ("pick", ("a",), ("b",)), ("pick", (1,)), ("pick", (None,)),
    ("some", ()), ("some", SIX + ("g",)), ("some", ("a", "a")), ("some", ("is",)), ("some", ["a", "b"]), ("some", "abc"),
    ("count", 1, 0), ("count", -1, 0), ("count", 0, 10 ** 6 + 1), ("count", 10 ** 6 + 1, 10 ** 6 + 1),
    ("count", False, 1), ("count", 0, True), ("count", True, True), ("count", 0), ("count", 0, 1, 2), ("count",),
    ("count", "0", "1"), ("count", 0, None), ("count", (0, 1)), ["count", 0, 1], ("Count", 0, 1), ("ask", ("a",)),
    ("hard", ("a",)), ("a", "b"), ("count", ("a",)), ("pick", 0, 1), ("count", -TOP, TOP),
]


def values_of(kind):
    """All values of a small kind, in order."""
    if kind[0] == "pick":
        return list(kind[1])
    if kind[0] == "count":
        return list(range(kind[1], kind[2] + 1))
    found = [tuple(o for o, taken in zip(kind[1], bits) if taken)
             for bits in itertools.product((0, 1), repeat=len(kind[1]))]
    return sorted(found, key=lambda value: sum(2 ** kind[1].index(option) for option in value))


class TestNames(unittest.TestCase):
    def test_words_are_those_of_the_document(self):
        self.assertEqual(WORDS, tuple(TEXT_OF_WORDS.split()))

    def test_names_have_one_to_eight_small_letters(self):
        for name in ("a", "z", "ab", "abcdefgh", "zzzzzzzz", "asks", "iss", "en", "ors", "pic", "none", "true"):
            self.assertTrue(is_name(name), name)
        for text in ("", "abcdefghi", "z" * 4000, "A", "aB", "a1", "1", "a ", " a", "a b", "a\n", "\na", "a-b", "a_b", "a+b",
                     "`", "{", "a`", "a{", "@", "[", "(", ")", "-", "~", "a.b", "\u00e4", "\u0430"):
            self.assertFalse(is_name(text), text)

    def test_no_word_is_a_name(self):
        for word in TEXT_OF_WORDS.split():
            self.assertFalse(is_name(word), word)

    def test_of_anything_a_truth_is_told(self):
        for thing in THINGS:
            self.assertEqual(answer_truth(self, is_name, thing), thing in ("a", "ab") if isinstance(thing, str) else False)


class TestKinds(unittest.TestCase):
    def test_kinds(self):
        for kind in KINDS:
            self.assertTrue(answer_truth(self, is_kind, kind), kind)
        for thing in NO_KINDS:
            self.assertFalse(answer_truth(self, is_kind, thing), thing)

    def test_of_anything_a_truth_is_told(self):
        for thing in THINGS:
            self.assertFalse(answer_truth(self, is_kind, thing))

    def test_kind_text(self):
        self.assertEqual(kind_text(("pick", ("b", "a"))), "pick b a")
        self.assertEqual(kind_text(("some", ("a",))), "some a")
        self.assertEqual(kind_text(("count", 0, 10 ** 6)), "count 0 1000000")

    def test_there_and_back(self):
        for kind in KINDS:
            self.assertTrue(alike(read_kind(kind_text(kind)), kind))

    def test_kind_text_refuses_what_is_no_kind(self):
        for thing in [*NO_KINDS, *THINGS]:
            refuse(self, NoKind, kind_text, thing)

    def test_read_kind_refuses_other_texts(self):
        for text in (
            "", " ", "pick", "pick ", "some", "some ", "count", "count ", "count 1", "count 1 ", "a", "a b", "pick  a", " pick a",
            "pick a ", "pick a  b", "pick a\n", "\npick a", "pick\na", "pick a\nb", "pick a a", "pick a b c d e f g", "pick A",
            "pick abcdefghi", "pick ask", "some a every", "pick a1", "pick 1", "pick a,b", "pick a+b", "some -", "Pick a",
            "count 0 1 2", "count 2 1", "count 00 1", "count 0 01", "count 01 1", "count +0 1", "count -1 1", "count 0 -0",
            "count 0 1000001", "count 0 9999999", "count 0 10000000", "count 0 " + "9" * 3900, "count 0  1", " count 0 1",
            "count 0 1 ", "count 0 1\n", "count\n0 1", "count 0 1.0", "count 0 1_0", "count 0 \u0661", "count 0 \u00b2",
            "count a b", "counts 0 1", "ask a", "ask pick a", "pick a is", "hard a",
        ):
            refuse(self, NoKind, read_kind, text)

    def test_read_kind_refuses_what_is_no_text(self):
        for thing in THINGS:
            refuse(self, NoKind, read_kind, thing)
        for thing in KINDS:
            refuse(self, NoKind, read_kind, thing)


class TestValues(unittest.TestCase):
    def assert_values(self, kind, good, bad):
        for value in good:
            self.assertTrue(answer_truth(self, is_value, kind, value), (kind, value))
        for value in bad:
            self.assertFalse(answer_truth(self, is_value, kind, value), (kind, value))
            refuse(self, NoValue, value_text, kind, value)

    def test_picks(self):
        self.assert_values(("pick", ("b", "a")), ["a", "b"],
                           ["c", "", "ba", "A", "a ", "pick", ("a",), ("b", "a"), ["a"], 0, 1, True, None, {"a": "a"}, {}])

    def test_somes(self):
        self.assert_values(("some", ("b", "a", "c")),
                           [(), ("b",), ("a",), ("b", "a"), ("c",), ("b", "c"), ("a", "c"), ("b", "a", "c")],
                           [("a", "b"), ("c", "b", "a"), ("a", "a"), ("b", "b", "a"), ("d",), ("b", "d"), ("b", "a", "c", "d"),
                            "b", "", ["b"], [], {}, None, 0, True, (0,), (True,), (None,), (("b",),), (["b"],), ("b", ["a"]), ("",)])

    def test_counts(self):
        self.assert_values(("count", 3, 5), [3, 4, 5], [2, 6, 0, -3, -4, 10 ** 6, TOP, -TOP, True, False, None, "3", "", (3,), [3], {}])
        self.assert_values(("count", 0, 1), [0, 1], [True, False, -1, 2, "0"])
        self.assert_values(("count", 0, 10 ** 6), [0, 10 ** 6], [-1, 10 ** 6 + 1])
        self.assert_values(("count", 7, 7), [7], [6, 8])

    def test_of_anything_a_truth_is_told(self):
        for kind in KINDS:
            for thing in THINGS:
                found = answer_truth(self, is_value, kind, thing)
                if found:
                    self.assertTrue(any(alike(thing, value) for value in values_of(kind)))
                else:
                    refuse(self, NoValue, value_text, kind, thing)

    def test_values_are_written(self):
        self.assertEqual(value_text(("pick", ("b", "a")), "a"), "a")
        self.assertEqual(value_text(("some", ("b", "a")), ("b", "a")), "b+a")
        self.assertEqual(value_text(("some", ("b", "a")), ("a",)), "a")
        self.assertEqual(value_text(("some", ("b", "a")), ()), "-")
        self.assertEqual(value_text(("count", 0, 10 ** 6), 10 ** 6), "1000000")
        self.assertEqual(value_text(("count", 0, 9), 0), "0")

    def test_there_and_back_over_all_values(self):
        for kind in KINDS:
            if kind != ("count", 0, 10 ** 6):
                texts = [value_text(kind, value) for value in values_of(kind)]
                self.assertEqual(len(set(texts)), len(texts))
                for value, text in zip(values_of(kind), texts):
                    self.assertTrue(alike(read_value(kind, text), value))

    def test_just_the_texts_of_values_are_read(self):
        signs = ["", "a", "b", "c", "+", "-", "0", "1", "2", " ", "\n"]
        texts = {"".join(parts) for parts in itertools.product(signs, repeat=4)}
        for kind in (("pick", ("b", "a")), ("some", ("b", "a", "c")), ("count", 0, 21), ("count", 2, 2)):
            written = {value_text(kind, value): value for value in values_of(kind)}
            for text in sorted(texts):
                if text in written:
                    self.assertEqual(read_value(kind, text), written[text])
                else:
                    refuse(self, NoValue, read_value, kind, text)

    def test_other_texts_are_refused(self):
        for kind, text in (
            (("count", 0, 5), "6"), (("count", 1, 5), "0"), (("count", 0, 5), "05"), (("count", 0, 5), "+5"),
            (("count", 0, 5), "-0"), (("count", 0, 5), "\u0665"), (("count", 0, 5), "\u00b2"), (("count", 0, 5), "9" * 4000),
            (("count", 0, 10 ** 6), "1000001"), (("count", 0, 10 ** 6), "01000000"), (("count", 0, 10 ** 6), "1_000"),
            (("pick", ("a", "b")), "a b"), (("pick", ("a", "b")), "-"), (("some", ("a", "b")), ""), (("some", ("a", "b")), "a b"),
            (("some", ("a", "b")), "b+a"), (("some", ("a", "b")), "a+a"), (("some", ("a", "b")), "+a"), (("some", ("a", "b")), "a+"),
            (("some", ("a", "b")), "a++b"), (("some", ("a", "b")), "-+a"), (("some", ("a", "b")), "--"), (("some", ("a", "b")), "a\n"),
        ):
            refuse(self, NoValue, read_value, kind, text)

    def test_what_is_no_text_is_refused(self):
        for kind in KINDS:
            for thing in THINGS:
                if not isinstance(thing, str):
                    refuse(self, NoValue, read_value, kind, thing)

    def test_no_kind_goes_first(self):
        for thing in [*NO_KINDS, *THINGS]:
            for other in ("a", 0, (), None, [], {}, "-", True, 10 ** 7):
                for call in (is_value, value_text, read_value):
                    refuse(self, NoKind, call, thing, other)
