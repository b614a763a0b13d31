"""Promises 3 to 12 and the list of promise 8, for many small sayings, against plain trying.

TooLarge is not raised for any of them. The ranges that are tried are those beyond which everything repeats:
a comparison of a small saying changes at most at 10 more than what the other numbers add up to.
"""

import itertools
import random
import unittest

from sumsaid.errors import TooLarge
from sumsaid.patterns import (beside, count_in, is_in, meet, moved, nearest, next_from, next_to, pattern_of, union)
from sumsaid.sayings import decide, is_plain, is_saying, plain, says
from tests.trying import (fault_of, holds_in, of_theres, small, trial, with_there, with_two_theres)


class Sayings(unittest.TestCase):
    def test_one_there_after_a_small_saying(self):
        dice = random.Random(1)
        for _ in range(700):
            count = dice.randint(0, 2)
            saying = with_there(dice, count)
            self.assertIs(is_saying(saying), True)
            holds = trial(saying, count, [80] * 9)
            made = plain(saying, count)
            self.assertIs(is_plain(made), True)
            for _ in range(10 if count else 1):
                values = tuple([dice.randint(-14, 14) for _ in range(count)])
                self.assertIs(says(saying, values), holds(*values), (saying, values))
                self.assertIs(says(made, values), holds(*values), (saying, values))
            if count == 0:
                self.assertIs(decide(saying), holds())

    def test_greater_given_numbers(self):
        dice = random.Random(2)
        for _ in range(150):
            saying = with_there(dice, 2)
            holds = trial(saying, 2, [450] * 9)
            made = plain(saying, 2)
            for _ in range(4):
                values = (dice.randint(-100, 100), dice.randint(-100, 100))
                self.assertIs(says(saying, values), holds(*values), (saying, values))
                self.assertIs(says(made, values), holds(*values), (saying, values))

    def test_many_given_numbers(self):
        dice = random.Random(3)
        for _ in range(60):
            saying = with_there(dice, 5)
            holds = trial(saying, 5, [80] * 9)
            made = plain(saying, 5)
            for values in [tuple([dice.randint(-5, 5) for _ in range(5)]) for _ in range(6)]:
                self.assertIs(says(saying, values), holds(*values), (saying, values))
                self.assertIs(says(made, values), holds(*values), (saying, values))

    def test_two_sought_numbers(self):
        dice = random.Random(4)
        for _ in range(300):
            saying = with_two_theres(dice)
            self.assertIs(decide(saying), trial(saying, 0, [60, 110])(), saying)

    def test_two_theres_with_given_numbers(self):
        dice = random.Random(5)
        for _ in range(60):
            lines = small(dice, 1, 2)
            lines.append(("there", len(lines) - 1))
            lines += [("not", len(lines) - 1)] if dice.random() < 0.5 else []
            lines.append(("there", len(lines) - 1))
            saying = tuple(lines)
            holds = trial(saying, 1, [0, 60, 120])
            made = plain(saying, 1)
            for x in dice.sample(range(-8, 9), 3):
                self.assertIs(says(saying, (x,)), holds(x), (saying, x))
                self.assertIs(says(made, (x,)), holds(x), (saying, x))

    def test_theres_side_by_side(self):
        dice = random.Random(6)
        for _ in range(300):
            count = dice.randint(0, 1)
            saying = of_theres(dice, count)
            holds = trial(saying, count + 1, [70] * 9)
            for _ in range(6):
                values = tuple([dice.randint(-20, 20) for _ in range(count + 1)])
                self.assertIs(says(saying, values), holds(*values), (saying, values))

    def test_plain_sayings_of_many_lines(self):
        dice = random.Random(7)
        for _ in range(300):
            lines = []
            for _ in range(dice.randint(1, 20)):
                factors = tuple([dice.randint(-9, 9) for _ in range(dice.randint(0, 6))])
                modulus = dice.randint(1, 12)
                lines.append(dice.choice([("below", factors, dice.randint(-99, 99)),
                                          ("rest", factors, modulus, dice.randrange(modulus))]))
            while len(lines) < 40:
                last = len(lines) - 1
                lines.append(("not", last) if dice.random() < 0.3 else ("both", last, dice.randint(0, last)))
                if dice.random() < 0.1:
                    break
            saying = tuple(lines)
            values = tuple([dice.randint(-10 ** 30, 10 ** 30) for _ in range(dice.randint(0, 6))])
            self.assertIs(says(saying, values), word_by_word(saying, values))
            self.assertIs(says(plain(saying, len(values)), values), word_by_word(saying, values))


def word_by_word(saying, values):
    """Whether a plain saying holds."""
    held = []
    for line in saying:
        if line[0] in ("below", "rest"):
            total = sum(factor * number for factor, number in zip(line[1], values))
            held.append(total < line[2] if line[0] == "below" else total % line[2] == line[3])
        else:
            held.append(not held[line[1]] if line[0] == "not" else held[line[1]] and held[line[2]])
    return held[-1]


class Patterns(unittest.TestCase):
    def assert_pattern(self, pattern, holds, numbers, told):
        self.assertIsNone(fault_of(pattern), told)
        for y in numbers:
            self.assertIs(holds_in(pattern, y), holds(y), told)
            self.assertIs(is_in(pattern, y), holds(y), told)

    def test_small_sayings(self):
        dice = random.Random(21)
        for _ in range(900):
            count = dice.randint(0, 2)
            saying = tuple(small(dice, count, 1))
            values = tuple([dice.randint(-100, 100) for _ in range(count)])
            holds = trial(saying, count + 1, [])
            pattern = pattern_of(saying, values)
            self.assert_pattern(pattern, lambda y: holds(*values, y), range(-450, 451, 3), (saying, values))
            self.assert_pattern(pattern, lambda y: holds(*values, y), range(-40, 41), (saying, values))

    def test_theres_side_by_side(self):
        dice = random.Random(22)
        for _ in range(150):
            count = dice.randint(0, 1)
            saying = of_theres(dice, count)
            values = tuple([dice.randint(-12, 12) for _ in range(count)])
            holds = trial(saying, count + 1, [90] * 9)
            told = (saying, values)
            self.assert_pattern(pattern_of(saying, values), lambda y: holds(*values, y), range(-45, 46), told)

    def test_there_behind_the_sought_number(self):
        dice = random.Random(23)
        for _ in range(150):
            saying = with_there(dice, 2)
            x = dice.randint(-9, 9)
            holds = trial(saying, 2, [130] * 9)
            self.assert_pattern(pattern_of(saying, (x,)), lambda y: holds(x, y), range(-45, 46), (saying, x))

    def test_sayings_that_are_made(self):
        dice = random.Random(24)
        for _ in range(100):
            saying = with_there(dice, 2)
            made = plain(saying, 2)
            x = dice.randint(-9, 9)
            self.assertEqual(pattern_of(made, (x,)), pattern_of(saying, (x,)), (saying, x))

    def test_what_is_made_of_patterns_of_small_sayings(self):
        dice = random.Random(25)
        for _ in range(400):
            first, second = [pattern_of(tuple(small(dice, 1, 1)), (dice.randint(-100, 100),)) for _ in range(2)]
            factor, constant = dice.choice([-9, -4, -1, 1, 2, 5]), dice.randint(-99, 99)
            near = range(-330, 331, 2)
            told = (first, second)
            self.assert_pattern(beside(first), lambda y: not holds_in(first, y), near, told)
            self.assert_pattern(union(first, second), lambda y: holds_in(first, y) or holds_in(second, y), near, told)
            self.assert_pattern(meet(first, second), lambda y: holds_in(first, y) and holds_in(second, y), near, told)
            self.assert_pattern(moved(first, factor, constant), lambda y: holds_in(first, factor * y + constant),
                                near, (first, factor, constant))

    def test_numbers_of_patterns_of_small_sayings(self):
        dice = random.Random(26)
        for _ in range(400):
            pattern = pattern_of(tuple(small(dice, 1, 1)), (dice.randint(-100, 100),))
            number, high = dice.randint(-300, 300), dice.randint(-300, 300)
            there = [y for y in range(-700, 701) if holds_in(pattern, y)]
            above = min([y for y in there if y >= number], default=None)
            under = max([y for y in there if y <= number], default=None)
            self.assertEqual((next_from(pattern, number), next_to(pattern, number)), (above, under))
            found = sorted([y for y in (above, under) if y is not None], key=lambda y: (abs(y - number), -y))
            self.assertEqual(nearest(pattern, number), found[0] if found else None)
            self.assertEqual(count_in(pattern, number, high), len([y for y in there if number <= y < high]))


class Beyond(unittest.TestCase):
    """Sayings beyond the list: an answer is right, or TooLarge is raised."""

    def test_large_factors_and_divisors(self):
        dice = random.Random(31)
        answers = 0
        for _ in range(60):
            lines = []
            for k in range(4):
                factors = tuple([dice.randint(-9, 9) for _ in range(2)])
                modulus = dice.randint(1, 12)
                lines.append(dice.choice([("below", factors, dice.randint(-50, 50)),
                                          ("rest", factors, modulus, dice.randrange(modulus))]))
            lines += [("below", (-1, dice.randint(1, 9)), 40), ("below", (1, -dice.randint(1, 9)), 40), ("not", 3),
                      ("both", 0, 1), ("both", 2, 6), ("both", 4, 5), ("both", 7, 9), ("not", 8), ("both", 10, 11),
                      ("there", 12)]
            saying = tuple(lines)
            holds = trial(saying, 1, [0, 400])
            try:
                made = plain(saying, 1)
            except TooLarge:
                continue
            answers += 1
            for x in range(-30, 31, 3):
                self.assertIs(says(made, (x,)), holds(x), (saying, x))
                self.assertIs(says(saying, (x,)), holds(x), (saying, x))
        self.assertGreater(answers, 50)

    def test_what_is_too_large(self):
        # Six numbers, all with other factors and divisors: no answer is given after a while, or a right one.
        lines = [("rest", tuple([(3 * j + 5 * k) % 10 for k in range(6)]), 12 - j, j) for j in range(6)]
        lines += [("below", tuple([(7 * j + 3 * k) % 19 - 9 for k in range(6)]), 60 - 9 * j) for j in range(8)]
        size = len(lines)
        lines.append(("both", 0, 1))
        lines += [("both", size + k, k + 2) for k in range(size - 2)]
        lines += [("there", size + size - 2 + k) for k in range(5)]
        with self.assertRaises(TooLarge):
            plain(tuple(lines), 1)

    def test_nothing_is_kept_between_calls(self):
        saying = (("rest", (1, -2), 7, 0), ("below", (-1, 1), 3), ("both", 0, 1), ("there", 2))
        first = plain(saying, 1)
        for values in itertools.product(range(3), repeat=1):
            says(saying, values)
        self.assertEqual(plain(saying, 1), first)


if __name__ == "__main__":
    unittest.main()
