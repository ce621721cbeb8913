"""[1]: each refusal of its own class, under just the class that is told."""

import copy
import unittest

from tiewheel.webs import errors

OF_A_TEXT = (
    "NoWeb", "NoMating", "NoPainting", "NoEnds", "NoFlips", "NoLabels", "NoDeeds", "NoWheel", "NoJoin", "NoShape",
    "NoLine", "TooFar",
)
BEARING = (
    ("NoText", errors.WebError, "at"), ("NoHand", IndexError, "hand"), ("NoNumber", LookupError, "number"),
    ("TooWide", OverflowError, "most"), ("Loud", RuntimeError, "cluster"), ("NoBack", KeyError, "many"),
)


class TestErrors(unittest.TestCase):
    def test_web_error_is_right_under_value_error(self):
        self.assertEqual(errors.WebError.__bases__, (ValueError,))
        self.assertEqual(str(errors.WebError("some text")), "some text")

    def test_those_of_a_text_are_right_under_web_error_and_tell_it(self):
        for name in OF_A_TEXT:
            with self.subTest(name):
                error = getattr(errors, name)
                self.assertEqual(error.__name__, name)
                self.assertEqual(error.__bases__, (errors.WebError,))
                self.assertEqual(str(error("what is wrong")), "what is wrong")
                with self.assertRaises(ValueError):
                    raise error("what is wrong")

    def test_others_bear_what_they_are_made_of(self):
        for name, base, attribute in BEARING:
            error = getattr(errors, name)
            self.assertEqual(error.__bases__, (base,))
            for thing in (0, 5, 10 ** 40 - 1, True, None, "a", (), [1, [2]], {1: "b"}):
                with self.subTest(name, thing=thing):
                    made = error(thing)
                    self.assertIs(getattr(made, attribute), thing)
                    self.assertEqual(vars(made), {attribute: thing})
                    self.assertEqual(getattr(copy.copy(made), attribute), thing)
                    self.assertIsInstance(str(made), str)

    def test_other_kinds_are_not_web_errors_nor_under_one_another(self):
        others = [getattr(errors, name) for name, _, _ in BEARING[1:]]
        for error in others:
            self.assertFalse(issubclass(error, errors.WebError))
            for other in others:
                self.assertEqual(issubclass(error, other), error is other)


if __name__ == "__main__":
    unittest.main()
