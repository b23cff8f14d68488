import unittest

from askround import errors

OF_TEXT = """NoKind NoValue NoCondition NoKey TooWide Stuck NoBook Clash Full NoNames NoEntry NoCheck Twice NoLines NoRound
NoWeights NoTable NoFits NoTotals NoCounts NoPlaces NoPlace NoText NoLine""".split()
OF_MORE = {"NoForm": "row", "CannotGo": "key", "NoRecord": "number", "NoFit": "number"}


class TestErrors(unittest.TestCase):
    def test_ask_error_stands_under_value_error(self):
        self.assertEqual(errors.AskError.__bases__, (ValueError,))

    def test_each_class_stands_right_under_ask_error(self):
        for name in [*OF_TEXT, *OF_MORE]:
            found = getattr(errors, name)
            self.assertEqual(found.__bases__, (errors.AskError,), name)
            self.assertEqual(found.__module__, "askround.errors")
            self.assertEqual(found.__name__, name)

    def test_nothing_else_is_defined(self):
        found = [name for name in vars(errors) if isinstance(vars(errors)[name], type)]
        self.assertEqual(sorted(found), sorted(["AskError", *OF_TEXT, *OF_MORE]))

    def test_those_made_of_a_text_tell_it(self):
        for name in ["AskError", *OF_TEXT]:
            self.assertEqual(str(getattr(errors, name)("why so")), "why so")

    def test_others_keep_what_they_are_made_of(self):
        for name, field in OF_MORE.items():
            for worth in (0, -1, 61, ("a", 3)):
                error = getattr(errors, name)(worth)
                self.assertEqual(getattr(error, field), worth)
                self.assertIsInstance(str(error), str)
