"""Promise 2: what a saying is, and what it is not."""

import unittest

from sumsaid.sayings import is_plain, is_saying

LEAF = ("below", (1,), 3)


class IsSaying(unittest.TestCase):
    def yes(self, *lines):
        self.assertIs(is_saying(tuple(lines)), True)

    def no(self, *lines):
        self.assertIs(is_saying(tuple(lines)), False)

    def test_each_line_alone_or_behind_another_one(self):
        self.yes(LEAF)
        self.yes(("rest", (1, -2), 7, 0))
        self.yes(LEAF, ("not", 0))
        self.yes(LEAF, ("both", 0, 0))
        self.yes(LEAF, ("there", 0))
        self.yes(LEAF, LEAF, ("both", 1, 0), ("there", 2), ("not", 3))

    def test_numbers_of_lines(self):
        self.no()
        self.yes(*[LEAF] * 40)
        self.no(*[LEAF] * 41)

    def test_factors(self):
        self.yes(("below", (), 0))
        self.yes(("below", (9, -9, 0, 0, 0, 9), 0))
        self.no(("below", (0, 0, 0, 0, 0, 0, 0), 0))
        self.no(("below", (10,), 0))
        self.no(("below", (0, -10), 0))
        self.yes(("rest", (), 1, 0))
        self.yes(("rest", (9, -9, 0, 0, 0, -9), 5, 0))
        self.no(("rest", (0, 0, 0, 0, 0, 0, 0), 5, 0))
        self.no(("rest", (10,), 5, 0))
        self.no(("rest", (-10,), 5, 0))

    def test_constants(self):
        self.yes(("below", (1,), 99))
        self.yes(("below", (1,), -99))
        self.no(("below", (1,), 100))
        self.no(("below", (1,), -100))

    def test_divisors_and_remainders(self):
        self.yes(("rest", (1,), 12, 11))
        self.yes(("rest", (1,), 1, 0))
        self.no(("rest", (1,), 13, 0))
        self.no(("rest", (1,), 0, 0))
        self.no(("rest", (1,), -3, 0))
        self.no(("rest", (1,), 3, 3))
        self.no(("rest", (1,), 3, -1))
        self.no(("rest", (1,), 1, 1))

    def test_only_earlier_lines_are_named(self):
        self.no(("not", 0))
        self.no(("there", 0))
        self.no(LEAF, ("not", 1))
        self.no(LEAF, ("there", 2))
        self.no(LEAF, ("not", -1))
        self.no(LEAF, ("there", -1))
        self.no(LEAF, ("both", 0, 1))
        self.no(LEAF, ("both", 1, 0))
        self.no(LEAF, ("both", -1, 0))
        self.no(LEAF, ("both", 0, -1))

    def test_numbers_of_members(self):
        for line in [(), ("below", (1,)), ("below", (1,), 3, 3), ("rest", (1,)), ("rest", (1,), 3), ("not",),
                     ("rest", (1,), 3, 0, 0), ("not", 0, 0), ("both",), ("both", 0), ("both", 0, 0, 0), ("there",),
                     ("there", 0, 0)]:
            self.no(LEAF, line)

    def test_other_words(self):
        for word in ["", "Below", "some", "and", "or", "true"]:
            self.no(LEAF, (word,))
            self.no(LEAF, (word, 0))
            self.no(LEAF, (word, 0, 0))

    def test_a_wrong_line_anywhere(self):
        self.no(("not", 0), LEAF)
        self.no(LEAF, ("rest", (1,), 13, 0), LEAF)

    def test_nesting_is_not_looked_at(self):
        self.yes(LEAF, *[("there", k) for k in range(39)])


class IsPlain(unittest.TestCase):
    def test_plain_sayings(self):
        self.assertIs(is_plain((LEAF,)), True)
        self.assertIs(is_plain((LEAF, ("rest", (1,), 2, 0), ("both", 0, 1), ("not", 2))), True)

    def test_any_line_there(self):
        self.assertIs(is_plain((LEAF, ("there", 0))), False)
        self.assertIs(is_plain((LEAF, ("there", 0), ("not", 1))), False)
        self.assertIs(is_plain((LEAF, ("there", 0), ("not", 0))), False)


if __name__ == "__main__":
    unittest.main()
