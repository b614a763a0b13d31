"""Promises 9 to 12: patterns of solutions."""

import random
import unittest

from sumsaid.errors import TooLarge
from sumsaid.patterns import (beside, count_in, is_in, meet, moved, nearest, next_from, next_to, pattern_of, union)
from tests.trying import fault_of, holds_in, random_pattern

NONE = ((False,), 0, (), (False,))
ALL = ((True,), 0, (), (True,))
EVEN = ((True, False), 0, (), (True, False))
BIG = 10 ** 200


class PatternOf(unittest.TestCase):
    def test_the_example_of_the_document(self):
        saying = (("below", (1,), 3), ("rest", (1,), 2, 0), ("not", 0), ("both", 1, 2))
        self.assertEqual(pattern_of(saying, ()), ((False,), 3, (), (True, False)))

    def test_what_repeats_everywhere(self):
        self.assertEqual(pattern_of((("below", (), 1),), ()), ALL)
        self.assertEqual(pattern_of((("below", (), 0),), ()), NONE)
        self.assertEqual(pattern_of((("rest", (1,), 2, 0),), ()), EVEN)
        self.assertEqual(pattern_of((("rest", (2,), 4, 2),), ()), ((False, True), 0, (), (False, True)))
        seventh = (False, False, True, False, False, False, False)
        self.assertEqual(pattern_of((("rest", (1, 3), 7, 1),), (2,)), (seventh, 0, (), seventh))

    def test_empty_middle(self):
        self.assertEqual(pattern_of((("below", (1,), 5),), ()), ((True,), 5, (), (False,)))
        self.assertEqual(pattern_of((("below", (-1,), 5),), ()), ((False,), -4, (), (True,)))
        # Below 4 all even numbers, from 4 on all multiples of 4: the numbers from 3 to 5 are as both say.
        lines = (("below", (1,), 4), ("rest", (1,), 2, 0), ("rest", (1,), 4, 0), ("both", 0, 1), ("not", 0),
                 ("both", 2, 4), ("not", 3), ("not", 5), ("both", 6, 7), ("not", 8))
        self.assertEqual(pattern_of(lines, ()), ((True, False), 3, (), (True, False, False, False)))

    def test_a_middle(self):
        saying = (("below", (1,), 5), ("below", (-1,), 3), ("both", 0, 1), ("rest", (1,), 2, 0), ("both", 2, 3))
        self.assertEqual(pattern_of(saying, ()), ((False,), -2, (True, False, True, False, True, False, True), (False,)))
        one = (("below", (1,), 4), ("below", (-1,), -2), ("both", 0, 1))
        self.assertEqual(pattern_of(one, ()), ((False,), 3, (True,), (False,)))
        self.assertEqual(pattern_of(one + (("not", 2),), ()), ((True,), 3, (False,), (True,)))

    def test_given_numbers_come_before(self):
        saying = (("below", (1, -1), 1), ("rest", (2, 1), 3, 0), ("both", 0, 1))
        self.assertEqual(pattern_of(saying, (4,)), ((False,), 2, (), (False, True, False)))
        self.assertEqual(pattern_of(saying, (-4,)), ((False,), -6, (), (False, False, True)))
        self.assertEqual(pattern_of((("below", (1,), 5),), (4,)), ALL)
        self.assertEqual(pattern_of((("below", (1,), 5),), (5, 7)), NONE)

    def test_behind_the_sought_number_comes_that_of_there(self):
        twice = (("below", (1, -1, -2), 1), ("below", (-1, 1, 2), 1), ("both", 0, 1), ("there", 2))
        self.assertEqual(pattern_of(twice, (0,)), EVEN)
        self.assertEqual(pattern_of(twice, (3,)), ((False, True), 0, (), (False, True)))
        self.assertEqual(pattern_of(twice[:3], (6,)), ((False,), 6, (True,), (False,)))

    def test_nested_theres(self):
        coins = (("below", (1, -5, -7), 1), ("below", (-1, 5, 7), 1), ("below", (0, -1), 1), ("below", (0, 0, -1), 1),
                 ("both", 0, 1), ("both", 2, 3), ("both", 4, 5), ("there", 6), ("there", 7))
        sums = {5 * j + 7 * k for j in range(20) for k in range(20)}
        middle = tuple(x in sums for x in range(24))
        self.assertEqual(pattern_of(coins, ()), ((False,), 0, middle, (True,)))

    def test_far_away(self):
        saying = (("below", (1, -1), 1), ("rest", (0, 1), 3, 0), ("both", 0, 1))
        self.assertEqual(pattern_of(saying, (BIG,)), ((False,), BIG, (), (True, False, False)))
        window = (("below", (1, -1), 1), ("below", (-1, 1), 4), ("both", 0, 1))
        self.assertEqual(pattern_of(window, (BIG,)), ((False,), BIG, (True,) * 4, (False,)))

    def test_all_divisors_together(self):
        lines = [("rest", (1,), m, 0) for m in (5, 7, 8, 9, 11)]
        lines += [("both", 0, 1), ("both", 5, 2), ("both", 6, 3), ("both", 7, 4)]
        left, start, middle, right = pattern_of(tuple(lines), ())
        self.assertEqual((len(left), left.count(True), left[0], start, middle), (27720, 1, True, 0, ()))
        self.assertEqual(left, right)

    def test_too_long(self):
        with self.assertRaises(TooLarge):
            pattern_of((("below", (1, -1), 1), ("below", (0, 1), 1), ("both", 0, 1)), (-BIG,))
        with self.assertRaises(TooLarge):
            pattern_of((("rest", (1,), BIG, 3),), ())


class IsIn(unittest.TestCase):
    def test_each_part(self):
        pattern = ((True, False, False), -2, (True, True, False), (False, True))
        expected = {-6: True, -5: False, -4: False, -3: True, -2: True, -1: True, 0: False, 1: True, 2: False, 3: True}
        for number, there in expected.items():
            self.assertIs(is_in(pattern, number), there)
        self.assertIs(is_in(pattern, 2 * BIG), False)
        self.assertIs(is_in(pattern, 2 * BIG + 1), True)
        self.assertIs(is_in(pattern, -3 * BIG), True)
        self.assertIs(is_in(pattern, -3 * BIG - 1), False)


class Made(unittest.TestCase):
    def assert_made(self, pattern, numbers, expected):
        self.assertIsNone(fault_of(pattern), pattern)
        for row in (pattern[0], pattern[2], pattern[3]):
            self.assertIsInstance(row, tuple)
            self.assertTrue(all(there is True or there is False for there in row))
        for y in numbers:
            self.assertIs(holds_in(pattern, y), expected(y), (pattern, y))

    def test_patterns_in_any_way_of_writing(self):
        dice = random.Random(11)
        for _ in range(1500):
            first, second = random_pattern(dice), random_pattern(dice)
            factor, constant = dice.choice([-7, -3, -2, -1, 1, 2, 3, 12]), dice.randint(-40, 40)
            near = range(-110, 111)
            self.assert_made(beside(first), near, lambda y: not holds_in(first, y))
            self.assert_made(union(first, second), near, lambda y: holds_in(first, y) or holds_in(second, y))
            self.assert_made(meet(first, second), near, lambda y: holds_in(first, y) and holds_in(second, y))
            self.assert_made(moved(first, factor, constant), near, lambda y: holds_in(first, factor * y + constant))

    def test_beside(self):
        self.assertEqual(beside(ALL), NONE)
        self.assertEqual(beside(NONE), ALL)
        self.assertEqual(beside(((False,), 3, (), (True, False))), ((True,), 3, (), (False, True)))

    def test_what_is_written_otherwise(self):
        self.assertEqual(beside(beside(((True, True), 7, (True, True, True), (True, True, True)))), ALL)
        self.assertEqual(union(((False, False), 3, (False, True, False), (False,)), NONE), ((False,), 4, (True,), (False,)))
        self.assertEqual(meet(((True, False), 5, (False, True), (True, False, True, False)), ALL), EVEN)
        # From 5 on all even numbers, 4 and below all: the number 4 is as both say.
        self.assertEqual(union(((True,), 4, (True,), (True, False)), NONE), ((True,), 4, (), (True, False)))

    def test_union_and_meet(self):
        third = ((True, False, False), 0, (), (True, False, False))
        sixth = (True, False, False, False, False, False)
        self.assertEqual(meet(EVEN, third), (sixth, 0, (), sixth))
        self.assertEqual(union(EVEN, beside(EVEN)), ALL)
        self.assertEqual(meet(EVEN, beside(EVEN)), NONE)
        low, high = ((True,), 0, (), (False,)), ((False,), 5, (), (True,))
        self.assertEqual(union(low, high), ((True,), 0, (False,) * 5, (True,)))
        self.assertEqual(meet(low, high), NONE)
        self.assertEqual(meet(beside(low), beside(high)), ((False,), 0, (True,) * 5, (False,)))
        self.assertEqual(union(beside(low), beside(high)), ALL)

    def test_far_apart(self):
        low, high = ((False,), -BIG, (), (True,)), ((False,), BIG - 1, (), (True, False))
        self.assertEqual(union(low, high), low)
        self.assertEqual(meet(low, high), high)
        with self.assertRaises(TooLarge):
            union(beside(low), high)
        with self.assertRaises(TooLarge):
            meet(low, beside(((False,), BIG, (), (True,))))

    def test_moved(self):
        square = ((False,), 10, (True, False, True), (False,))
        self.assertEqual(moved(square, 1, 4), ((False,), 6, (True, False, True), (False,)))
        self.assertEqual(moved(square, -1, 0), ((False,), -12, (True, False, True), (False,)))
        self.assertEqual(moved(square, 2, 0), ((False,), 5, (True, True), (False,)))
        self.assertEqual(moved(square, 5, 0), ((False,), 2, (True,), (False,)))
        self.assertEqual(moved(square, 7, 0), NONE)
        self.assertEqual(moved(EVEN, 2, 0), ALL)
        self.assertEqual(moved(EVEN, -2, 1), NONE)
        self.assertEqual(moved(EVEN, 3, 1), beside(EVEN))
        self.assertEqual(moved(((False,), 0, (), (True,)), BIG, 1 - BIG), ((False,), 1, (), (True,)))
        self.assertEqual(moved(((False,), 0, (), (True,)), -1, BIG), ((True,), BIG + 1, (), (False,)))


class Next(unittest.TestCase):
    def test_patterns_in_any_way_of_writing(self):
        dice = random.Random(12)
        for _ in range(1500):
            pattern = random_pattern(dice)
            number = dice.randint(-50, 50)
            there = [y for y in range(-130, 131) if holds_in(pattern, y)]
            above = min([y for y in there if y >= number], default=None)
            under = max([y for y in there if y <= number], default=None)
            self.assertEqual(next_from(pattern, number), above)
            self.assertEqual(next_to(pattern, number), under)
            found = sorted([y for y in (above, under) if y is not None], key=lambda y: (abs(y - number), -y))
            self.assertEqual(nearest(pattern, number), found[0] if found else None)

    def test_nothing_is_there(self):
        for number in (-BIG, 0, BIG):
            self.assertIsNone(next_from(NONE, number))
            self.assertIsNone(next_to(NONE, number))
            self.assertIsNone(nearest(NONE, number))

    def test_to_one_side(self):
        above = ((False,), 5, (), (True,))
        self.assertEqual((next_from(above, -BIG), next_to(above, -BIG), nearest(above, -BIG)), (5, None, 5))
        self.assertEqual((next_from(above, BIG), next_to(above, BIG), nearest(above, BIG)), (BIG, BIG, BIG))
        under = ((True, False), 5, (), (False,))
        self.assertEqual((next_from(under, BIG), next_to(under, BIG), nearest(under, BIG)), (None, 4, 4))
        self.assertEqual((next_from(under, 5), next_to(under, 5), next_from(under, 4)), (None, 4, 4))

    def test_the_greater_one_of_two(self):
        self.assertEqual(nearest(((False,), -1, (True, False, True), (False,)), 0), 1)
        self.assertEqual(nearest(((False,), -1, (True, False, False, True), (False,)), 0), -1)
        self.assertEqual(nearest(((False,), -2, (True, False, False, True), (False,)), 0), 1)
        self.assertEqual(nearest(EVEN, -7), -6)
        self.assertEqual(nearest(EVEN, -8), -8)


class CountIn(unittest.TestCase):
    def test_patterns_in_any_way_of_writing(self):
        dice = random.Random(13)
        for _ in range(1500):
            pattern = random_pattern(dice)
            low, high = dice.randint(-60, 60), dice.randint(-60, 60)
            self.assertEqual(count_in(pattern, low, high), sum(holds_in(pattern, y) for y in range(low, high)))

    def test_bounds_the_wrong_way_round(self):
        self.assertEqual(count_in(ALL, 5, 5), 0)
        self.assertEqual(count_in(ALL, 6, 5), 0)
        self.assertEqual(count_in(ALL, BIG, -BIG), 0)
        self.assertEqual(count_in(((True,), 0, (True,) * 9, (True,)), 7, 2), 0)

    def test_between_far_bounds(self):
        self.assertEqual(count_in(ALL, -BIG, BIG), 2 * BIG)
        self.assertEqual(count_in(EVEN, -BIG, BIG), BIG)
        self.assertEqual(count_in(((False,), 3, (True, False, True), (True, False)), -BIG, BIG), 2 + (BIG - 6) // 2)
        self.assertEqual(count_in(((True, False, False), 0, (), (False,)), -3 * BIG, 5), BIG)
        self.assertEqual(count_in(((True, False, False), 0, (), (False,)), -3 * BIG - 1, -BIG), BIG - BIG // 3)
        self.assertEqual(count_in(NONE, -BIG, BIG), 0)


if __name__ == "__main__":
    unittest.main()
