"""Promise 7: a plain saying that says the same."""

import itertools
import random
import unittest

from sumsaid.patterns import is_in, pattern_of
from sumsaid.sayings import decide, is_plain, plain, says

BETWEEN = (("below", (1, 0, -3), 1), ("below", (0, -1, 3), 1), ("both", 0, 1), ("there", 2))


class Plain(unittest.TestCase):
    def assert_same(self, saying, count, numbers, reference=None):
        made = plain(saying, count)
        self.assertIs(is_plain(made), True)
        for index, line in enumerate(made):
            if line[0] not in ("below", "rest"):
                self.assertTrue(all(0 <= named < index for named in line[1:]))
        for values in itertools.product(numbers, repeat=count):
            expected = says(saying, values) if reference is None else reference(*values)
            self.assertIs(says(made, values), expected)
        return made

    def test_the_next_multiple_is_not_beyond(self):
        self.assert_same(BETWEEN, 2, range(-8, 9), lambda x, y: -(-x // 3) * 3 <= y)

    def test_what_is_plain_stays_the_same(self):
        saying = (("below", (2, -1), 4), ("rest", (1, 1), 3, 2), ("not", 1), ("both", 0, 2))
        self.assert_same(saying, 2, range(-6, 7), lambda x, y: 2 * x - y < 4 and (x + y) % 3 != 2)

    def test_without_given_numbers(self):
        self.assertIs(says(plain((("rest", (2,), 4, 1), ("there", 0)), 0), ()), False)
        self.assertIs(says(plain((("rest", (2,), 4, 2), ("there", 0)), 0), ()), True)
        self.assertIs(is_plain(plain((("rest", (2,), 4, 2), ("there", 0)), 0)), True)

    def test_numbers_that_are_not_given_count_as_0(self):
        for saying in [(("below", (1, 1), 3),), (("below", (1, 0, 1), 3), ("there", 0)), BETWEEN]:
            made = plain(saying, 1)
            for x in range(-9, 10):
                self.assertIs(says(made, (x,)), says(saying, (x,)))
                # No factor is left that a number behind the given one could have.
                self.assertIs(says(made, (x, 5, 7)), says(saying, (x,)))

    def test_a_line_there_that_is_not_used(self):
        saying = (("rest", (0, 2), 4, 1), ("there", 0), ("below", (1,), 2))
        self.assert_same(saying, 1, range(-4, 5), lambda x: x < 2)

    def test_denied_and_side_by_side(self):
        saying = BETWEEN + (("not", 3), ("rest", (1, 0, 2), 4, 1), ("there", 5), ("both", 4, 6))
        self.assert_same(saying, 2, range(-7, 8), lambda x, y: -(-x // 3) * 3 > y and x % 2 == 1)

    def test_nested(self):
        # There are two multiples of 2 and of 3 whose sum is x, both from 0 to y.
        saying = (("below", (1, 0, -2, -3), 1), ("below", (-1, 0, 2, 3), 1), ("below", (0, 0, -1), 1),
                  ("below", (0, 0, 0, -1), 1), ("below", (0, -1, 2), 1), ("below", (0, -1, 0, 3), 1), ("both", 0, 1),
                  ("both", 2, 3), ("both", 4, 5), ("both", 6, 7), ("both", 8, 9), ("there", 10), ("there", 11))
        self.assert_same(saying, 2, range(-3, 14), lambda x, y: any(
            (x - 2 * j) % 3 == 0 and 0 <= x - 2 * j <= y for j in range(0, y // 2 + 1)))

    def test_for_numbers_of_hundreds_of_digits(self):
        made = plain(BETWEEN, 2)
        big = 3 * 10 ** 250
        self.assertIs(says(made, (big, big)), True)
        self.assertIs(says(made, (big + 1, big + 2)), False)
        self.assertIs(says(made, (big + 1, big + 3)), True)
        self.assertIs(says(made, (-big - 2, -big - 1)), False)
        self.assertIs(says(made, (-big - 2, -big)), True)

    def test_with_numbers_of_hundreds_of_digits(self):
        big = 10 ** 250
        # The factors and constants of sayings that are made may be larger.
        saying = (("below", (1, -big), 1), ("below", (-1, big), 1), ("both", 0, 1), ("there", 2))
        self.assertIs(says(saying, (big * 5,)), True)
        self.assertIs(says(saying, (big * 5 + 1,)), False)
        self.assertIs(says(plain(saying[:2] + (("both", 0, 1), ("not", 2)), 2), (big, 1)), False)
        self.assertIs(says((("rest", (1, 3), 3 * big, 5), ("there", 0)), (8,)), True)
        self.assertIs(says((("rest", (1, 3), 3 * big, 5), ("there", 0)), (9,)), False)

    def test_what_is_made_may_be_passed_on(self):
        # Sums of coins of 8 and 3: what is made may have more lines and larger numbers than a saying.
        coins = (("below", (1, -8, -3), 1), ("below", (-1, 8, 3), 1), ("below", (0, -1), 1), ("below", (0, 0, -1), 1),
                 ("both", 0, 1), ("both", 2, 3), ("both", 4, 5), ("there", 6), ("there", 7))
        made = plain(coins, 1)
        last = len(made) - 1
        every = made + (("below", (1,), 14), ("not", last + 1), ("not", last), ("both", last + 2, last + 3),
                        ("there", last + 4), ("not", last + 5))
        self.assertIs(decide(every), True)
        less = made + (("below", (1,), 13),) + every[last + 2:]
        self.assertIs(decide(less), False)
        again = plain(made + (("not", last),), 1)
        for x in range(-5, 40):
            self.assertIs(says(again, (x,)), not says(coins, (x,)))

    def test_chains_of_many_lines(self):
        lines = [("rest", (1, 1), 5, 0), ("there", 0)]
        for k in range(1, 38):
            lines.append(("not", k))
        self.assertIs(says(tuple(lines), (3,)), False)
        lines = [("below", (1,), 0)]
        for k in range(3000):
            lines.append(("not", 2 * k))
            lines.append(("both", 2 * k + 1, 2 * k + 1))
        self.assertIs(says(plain(tuple(lines), 1), (-1,)), True)
        self.assertIs(says(plain(tuple(lines + [("there", len(lines) - 1)]), 1), (-1,)), True)

    def test_sayings_that_are_nested_very_deep(self):
        dice = random.Random(51)
        for _ in range(3):
            lines = [("below", (1, 1), 0)]
            for k in range(400):
                modulus = dice.randint(2, 5)
                line = dice.choice([("below", (dice.randint(-2, 2), dice.choice([-1, 1])), dice.randint(-60, 60)),
                                    ("rest", (1, dice.randint(-1, 1)), modulus, dice.randrange(modulus))])
                lines += [("not", len(lines) - 1), line, ("both", len(lines), len(lines) + 1)]
            saying = tuple(lines)
            last = len(lines) - 1
            for x in range(-5, 6):
                there = any(says(saying, (x, y)) for y in range(-150, 151))
                self.assertIs(says(saying + (("there", last),), (x,)), there)
                every = all(says(saying, (x, y)) for y in range(-150, 151))
                self.assertIs(says(saying + (("not", last), ("there", last + 1), ("not", last + 2)), (x,)), every)
                pattern = pattern_of(saying, (x,))
                self.assertTrue(all(is_in(pattern, y) is says(saying, (x, y)) for y in range(-200, 201)))


if __name__ == "__main__":
    unittest.main()
