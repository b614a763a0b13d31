"""The errors of the package."""

import unittest

from sumsaid.errors import InvalidWord, NotFitting, SumsaidError, TooLarge, UnknownName


class Errors(unittest.TestCase):
    def test_all_have_the_base_class(self):
        self.assertTrue(issubclass(SumsaidError, ValueError))
        for error in (TooLarge, InvalidWord, UnknownName, NotFitting):
            self.assertTrue(issubclass(error, SumsaidError))

    def test_an_invalid_word_has_its_number(self):
        error = InvalidWord(7)
        self.assertEqual(error.number, 7)
        self.assertEqual(InvalidWord(0).number, 0)
        self.assertIsInstance(str(error), str)

    def test_the_others_are_made_with_one_text(self):
        for error in (SumsaidError, TooLarge, UnknownName, NotFitting):
            with self.assertRaises(SumsaidError) as caught:
                raise error("a text")
            self.assertEqual(str(caught.exception), "a text")


if __name__ == "__main__":
    unittest.main()
