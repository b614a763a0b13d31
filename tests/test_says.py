"""Promises 1 and 3 to 6: sums, given numbers, `there`, remainders."""

import unittest

from sumsaid.sayings import decide, says


class Sums(unittest.TestCase):
    def test_the_value_of_a_sum_is_compared(self):
        saying = (("below", (2, -3), 5),)
        self.assertIs(says(saying, (4, 1)), False)
        self.assertIs(says(saying, (4, 2)), True)
        self.assertIs(says(saying, (3, 1)), True)
        self.assertIs(says(saying, (-3, -4)), False)

    def test_numbers_that_are_not_there_count_as_0(self):
        self.assertIs(says((("below", (1, 9), 5),), (4,)), True)
        self.assertIs(says((("below", (1, 9), 5),), (5,)), False)
        self.assertIs(says((("below", (9,), 1),), ()), True)
        self.assertIs(says((("rest", (1, 1), 3, 2),), (5,)), True)
        self.assertIs(says((("rest", (7,), 3, 1),), ()), False)

    def test_more_numbers_than_factors(self):
        self.assertIs(says((("below", (1,), 5),), (4, 100, 100)), True)
        self.assertIs(says((("below", (), 0),), (1, 2)), False)
        self.assertIs(says((("rest", (), 3, 0),), (1, 2)), True)

    def test_the_last_line_is_said(self):
        self.assertIs(says((("below", (1,), 5), ("below", (1,), 3)), (4,)), False)
        self.assertIs(says((("below", (1,), 3), ("below", (1,), 5)), (4,)), True)
        self.assertIs(says((("below", (1,), 3), ("there", 0), ("below", (1,), 5)), (5,)), False)

    def test_not_and_both(self):
        lines = (("below", (1,), 5), ("below", (-1,), 3), ("not", 0))
        self.assertIs(says(lines + (("both", 0, 1),), (0,)), True)
        self.assertIs(says(lines + (("both", 0, 1),), (5,)), False)
        self.assertIs(says(lines + (("both", 0, 1),), (-3,)), False)
        self.assertIs(says(lines + (("both", 2, 1),), (5,)), True)
        self.assertIs(says(lines + (("both", 2, 1), ("not", 3)), (5,)), False)

    def test_numbers_of_hundreds_of_digits(self):
        big = 10 ** 300
        self.assertIs(says((("below", (1, -1), 1),), (big, big)), True)
        self.assertIs(says((("below", (1, -1), 0),), (big, big)), False)
        self.assertIs(says((("rest", (1,), 7, big % 7),), (big,)), True)
        self.assertIs(says((("below", (1, -2), 0), ("below", (-1, 2), 1), ("both", 0, 1), ("there", 2)), (big,)), False)
        between = (("below", (1, -2), 1), ("below", (-1, 2), 1), ("both", 0, 1), ("there", 2))
        self.assertIs(says(between, (big,)), True)
        self.assertIs(says(between, (big + 1,)), False)
        self.assertIs(says(between, (-big - 1,)), False)

    def test_lines_that_are_used_very_often(self):
        lines = [("rest", (1,), 2, 0)]
        for k in range(39):
            lines.append(("both", k, k))
        self.assertIs(says(tuple(lines), (4,)), True)
        self.assertIs(says(tuple(lines), (5,)), False)
        self.assertIs(says(tuple(lines[:38]) + (("there", 37),), ()), True)


class Remainders(unittest.TestCase):
    def test_remainders_of_negative_numbers(self):
        for modulus in range(1, 13):
            for number in range(-30, 31):
                found = [r for r in range(modulus) if says((("rest", (1,), modulus, r),), (number,))]
                self.assertEqual(len(found), 1)
                self.assertEqual((number - found[0]) % modulus, 0)

    def test_negative_numbers_with_there(self):
        # The greatest multiple of 5 that is at most -7 is -10.
        saying = (("rest", (0, 1), 5, 0), ("below", (-1, 1), 1), ("below", (1, -1), 3), ("both", 0, 1), ("both", 3, 2),
                  ("there", 4))
        self.assertIs(says(saying, (-8,)), True)
        self.assertIs(says(saying, (-7,)), False)
        self.assertIs(says(saying, (-11,)), False)
        self.assertIs(says(saying, (-10,)), True)


class There(unittest.TestCase):
    def test_the_example_of_the_document(self):
        self.assertIs(says((("rest", (1, -2), 7, 0), ("there", 0)), (5,)), True)

    def test_there_is_over_all_integers(self):
        self.assertIs(decide((("below", (1,), -99), ("there", 0))), True)
        self.assertIs(decide((("below", (-1,), -99), ("there", 0))), True)
        self.assertIs(decide((("below", (1,), 0), ("below", (-1,), 0), ("both", 0, 1), ("there", 2))), False)
        far = (("below", (-1, 9), 0), ("there", 0))
        self.assertIs(says(far, (10 ** 200,)), True)
        self.assertIs(says(far, (-10 ** 200,)), True)

    def test_the_number_asked_for_is_the_next_one(self):
        saying = (("below", (0, 0, 1), 5), ("below", (1, 0, -1), 0), ("both", 0, 1), ("there", 2))
        self.assertIs(says(saying, (3, 50)), True)
        self.assertIs(says(saying, (4, 50)), False)
        # With one number given, number 1 is asked for, and number 2 counts as 0.
        self.assertIs(says(saying, (-1,)), True)
        self.assertIs(says(saying, (0,)), False)

    def test_nested_and_denied(self):
        greater = ("below", (1, -1), 0)
        self.assertIs(decide((greater, ("there", 0), ("not", 1), ("there", 2), ("not", 3))), True)
        self.assertIs(decide((greater, ("not", 0), ("there", 1), ("not", 2), ("there", 3))), False)
        # No number is the greatest one, and none is at least as great as all.
        self.assertIs(decide((greater, ("there", 0), ("not", 1), ("there", 2))), False)

    def test_even_and_odd(self):
        twice = (("below", (1, -2), 1), ("below", (-1, 2), 1), ("both", 0, 1), ("there", 2))
        one_more = (("below", (1, -2), 2), ("below", (-1, 2), 0), ("both", 4, 5), ("there", 6))
        every = (("not", 3), ("not", 7), ("both", 8, 9), ("there", 10), ("not", 11))
        self.assertIs(decide(twice + one_more + every), True)
        self.assertIs(decide(twice + (("not", 3), ("there", 4), ("not", 5))), False)

    def test_a_line_inside_and_outside_of_there(self):
        lines = (("below", (1, 1), 3), ("there", 0), ("both", 0, 1))
        # Outside, number 1 is not there; inside, it is asked for.
        self.assertIs(says(lines, (2,)), True)
        self.assertIs(says(lines, (3,)), False)
        self.assertIs(says(lines[:2], (3,)), True)

    def test_a_line_at_two_depths(self):
        # Number 1 is that of the outer line `there`, number 2 that of the inner one.
        lines = (("rest", (1, 1, 1), 2, 1), ("there", 0), ("not", 0), ("both", 1, 2), ("there", 3))
        self.assertIs(says(lines, (0,)), True)
        self.assertIs(says((("below", (0, 0, 1), 0), ("there", 0), ("both", 0, 1), ("there", 2)), (0,)), False)
        self.assertIs(says((("below", (0, 1), 0), ("there", 0), ("both", 0, 1)), (0,)), False)
        self.assertIs(says((("below", (0, 1), 0), ("there", 0), ("both", 0, 1), ("there", 2)), (0,)), True)

    def test_there_for_what_has_no_factor(self):
        self.assertIs(says((("below", (1,), 3), ("there", 0)), (2,)), True)
        self.assertIs(says((("below", (1,), 3), ("there", 0)), (3,)), False)
        sixth = (("below", (1, 1, 1, 1, 1, 1), 3), ("there", 0))
        self.assertIs(says(sixth, (1, 1, 1, 0, 0, 0)), False)
        self.assertIs(says(sixth, (1, 1, 0, 0, 0, 0)), True)

    def test_seven_numbers(self):
        lines = [("below", (1, 1, 1, 1, 1, 1), 0), ("below", (-1, -1, -1, -1, -1, -1), 2), ("both", 0, 1)]
        lines += [("there", k) for k in range(2, 9)]
        self.assertIs(decide(tuple(lines)), True)
        self.assertIs(decide(tuple(lines) + (("not", 9),)), False)

    def test_two_theres_side_by_side(self):
        lines = (("rest", (1, 3), 6, 0), ("there", 0), ("rest", (1, 2), 6, 0), ("there", 2), ("both", 1, 3))
        for x in range(-12, 13):
            self.assertIs(says(lines, (x,)), x % 6 == 0)
            self.assertIs(says(lines[:2], (x,)), x % 3 == 0)

    def test_coins(self):
        coins = (("below", (1, -5, -7), 1), ("below", (-1, 5, 7), 1), ("below", (0, -1), 1), ("below", (0, 0, -1), 1),
                 ("both", 0, 1), ("both", 2, 3), ("both", 4, 5), ("there", 6), ("there", 7))
        sums = {5 * j + 7 * k for j in range(20) for k in range(20)}
        for x in range(-3, 40):
            self.assertIs(says(coins, (x,)), x in sums)
        for low, expected in ((23, False), (24, True)):
            every = (("below", (1,), low), ("not", 9), ("not", 8), ("both", 10, 11), ("there", 12), ("not", 13))
            self.assertIs(decide(coins + every), expected)


class Decide(unittest.TestCase):
    def test_without_given_numbers(self):
        self.assertIs(decide((("below", (), 1),)), True)
        self.assertIs(decide((("below", (), 0),)), False)
        self.assertIs(decide((("below", (5,), 1),)), True)
        self.assertIs(decide((("rest", (2,), 4, 1), ("there", 0))), False)
        self.assertIs(decide((("rest", (3,), 4, 1), ("there", 0))), True)

    def test_it_is_says_without_values(self):
        for modulus in range(1, 13):
            for factor in range(-9, 10):
                for rest in range(modulus):
                    saying = (("rest", (factor,), modulus, rest), ("there", 0))
                    expected = any(factor * x % modulus == rest for x in range(modulus))
                    self.assertIs(decide(saying), expected)
                    self.assertIs(says(saying, ()), expected)


if __name__ == "__main__":
    unittest.main()
