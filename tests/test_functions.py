"""Functions that are written from sayings: promises 13 to 19."""

import random
import unittest
from unittest import mock

from sumsaid.errors import TooLarge
from sumsaid.functions import (
    best_sum, composed, domain, either, graph, greatest_to, highest, inverse, least_from, lowest, restricted, value,
)
from sumsaid.patterns import next_from, next_to, pattern_of
from sumsaid.sayings import is_plain, says
from tests.trying import (
    fault_of_cases, first_solution, of_theres, plain_value, small, some_function, some_given, some_sum, sum_worth, trial,
    widened,
)

ALWAYS = (("below", (), 1),)
NEVER = (("below", (), 0),)
# The next number is twice the given one, or one more.
ABOUT_TWICE = (("below", (2, -1), 1), ("below", (-2, 1), 2), ("both", 0, 1))
# The next number is even.
EVEN = (("rest", (0, 1), 2, 0),)


def constants(kind, *numbers):
    """A function without given numbers whose cases always hold."""
    return kind, tuple([(ALWAYS, (), number, 1) for number in numbers])


class Value(unittest.TestCase):
    def test_least_and_greatest(self):
        self.assertEqual(value(constants("least", 3, -4, 5), ()), -4)
        self.assertEqual(value(constants("greatest", 3, -4, 5), ()), 5)

    def test_no_case(self):
        self.assertIsNone(value(("least", ()), ()))
        self.assertIsNone(value(("greatest", ()), (1, 2)))
        self.assertIsNone(value(("least", ((NEVER, (1,), 2, 1),)), (7,)))

    def test_only_cases_that_hold(self):
        function = ("least", (((("below", (1,), 0),), (), -100, 1), ((("below", (-1,), 1),), (2,), 1, 1)))
        self.assertEqual(value(function, (-1,)), -100)
        self.assertEqual(value(function, (0,)), 1)
        self.assertEqual(value(function, (10 ** 30,)), 2 * 10 ** 30 + 1)

    def test_rounded_down(self):
        function = ("least", ((ALWAYS, (1,), 0, 3),))
        self.assertEqual([value(function, (x,)) for x in (-4, -3, -1, 0, 1, 2, 3)], [-2, -1, -1, 0, 0, 0, 1])

    def test_numbers_that_are_not_there(self):
        self.assertEqual(value(("least", ((ALWAYS, (2, 5, 7), 1, 1),)), (10,)), 21)
        self.assertEqual(value(("least", (((("below", (0, 1), 0),), (2,), 1, 1),)), (10,)), None)
        self.assertEqual(value(("least", ((ALWAYS, (2,), 1, 1),)), (10, 20, 30)), 21)

    def test_a_long_condition_is_not_too_large(self):
        condition = (("below", (1,), 5),) + tuple([("not", k) for k in range(20000)])
        self.assertEqual(value(("least", ((condition, (1,), 0, 1),)), (3,)), 3)


class Least(unittest.TestCase):
    def test_examples(self):
        function = least_from((("rest", (1, 1), 3, 0),), 1, ((1,), 0))
        self.assertEqual(function[0], "least")
        self.assertEqual([value(function, (x,)) for x in range(-3, 5)], [-3, -1, 1, 0, 2, 4, 3, 5])

    def test_no_given_numbers(self):
        self.assertEqual(value(least_from((("rest", (1,), 4, 1),), 0, ((), -9)), ()), -7)

    def test_no_solution(self):
        self.assertIsNone(value(least_from(NEVER, 1, ((), 0)), (5,)))
        above = least_from((("below", (1, 1), 0),), 1, ((1,), 0))
        self.assertEqual([value(above, (x,)) for x in (-3, -1, 0, 4)], [-3, -1, None, None])

    def test_the_floor_is_a_solution(self):
        self.assertEqual(value(least_from(ALWAYS, 2, ((1, -2), 7)), (10, 3)), 11)

    def test_floors_with_fewer_factors_and_with_more(self):
        for floor in (((3,), 1), ((3, 0), 1), ((3, 0, 9, 9), 1)):
            function = least_from(EVEN, 1, floor)
            self.assertEqual([value(function, (x,)) for x in (-2, -1, 0, 1)], [-4, -2, 2, 4], floor)
        # The second factor is not one of the sought number, which is not there in a floor.
        self.assertEqual(value(least_from(ALWAYS, 1, ((0, 1), 5)), (3,)), 5)

    def test_far_values(self):
        function = least_from(ABOUT_TWICE, 1, ((), -10 ** 40))
        self.assertEqual(value(function, (10 ** 20,)), 2 * 10 ** 20)
        self.assertIsNone(value(function, (-10 ** 40,)))

    def test_small_sayings(self):
        dice = random.Random(14)
        for _ in range(250):
            count = dice.choice((0, 1, 1, 2))
            saying, floor = widened(dice, small(dice, count, 1), count + 1), some_sum(dice, count)
            function = least_from(saying, count, floor)
            holds = trial(saying, count + 1, {})
            self.assertEqual(function[0], "least")
            for _ in range(4):
                given = some_given(dice, count)
                low = sum_worth(floor, given)
                found = first_solution(holds, given, low, 1)
                self.assertEqual(value(function, given), found, (saying, count, floor, given))
                fault = fault_of_cases(function, given, lambda y: y >= low and holds(*given, y))
                self.assertIsNone(fault, (saying, count, floor, given))

    def test_sayings_with_there(self):
        dice = random.Random(15)
        for _ in range(60):
            count = dice.choice((0, 1))
            saying, floor = of_theres(dice, count), some_sum(dice, count)
            function = least_from(saying, count, floor)
            for _ in range(3):
                given = some_given(dice, count, 40)
                pattern = pattern_of(saying, given)
                low = sum_worth(floor, given)
                self.assertEqual(value(function, given), next_from(pattern, low), (saying, count, floor, given))

    def test_sought_with_a_factor(self):
        # The least y with 3y >= x.
        function = least_from((("below", (1, -3), 1),), 1, ((), -50))
        for x in range(-30, 31):
            self.assertEqual(value(function, (x,)), -(-x // 3))

    def test_greater_factors_of_the_sought_number(self):
        dice = random.Random(13)
        for _ in range(150):
            count = dice.choice((0, 1))
            lines = []
            for _ in range(3):
                factors, modulus = tuple([dice.randint(-3, 3) for _ in range(count + 1)]), dice.randint(2, 5)
                lines.append(("below", factors, dice.randint(-20, 20)) if dice.random() < 0.6
                             else ("rest", factors, modulus, dice.randrange(modulus)))
            lines += [("both", 0, 1), ("not", 3), ("not", 2)]
            saying = tuple(lines) + (("both", dice.choice((3, 4)), dice.choice((2, 5))),)
            floor = some_sum(dice, count)
            least, greatest = least_from(saying, count, floor), greatest_to(saying, count, floor)
            for _ in range(4):
                given = some_given(dice, count)
                pattern, bound = pattern_of(saying, given), sum_worth(floor, given)
                self.assertEqual(value(least, given), next_from(pattern, bound), (saying, count, floor, given))
                self.assertEqual(value(greatest, given), next_to(pattern, bound), (saying, count, floor, given))

    def test_many_numbers(self):
        saying = (("below", (1, 2, -1, 1, 2, -1), 3), ("rest", (1, 1, 1, 1, 1, 1), 4, 2), ("both", 0, 1))
        function = least_from(saying, 5, ((1, 1, 1, 1, 1), 0))
        dice = random.Random(5)
        for _ in range(20):
            given = some_given(dice, 5)
            self.assertEqual(value(function, given), next_from(pattern_of(saying, given), sum(given)))

    def test_too_large(self):
        with self.assertRaises(TooLarge):
            least_from((("rest", (1, 1), 10 ** 9, 0),), 1, ((), 0))

    def test_too_many_lines(self):
        saying, floor = (("rest", (1, 1), 3, 0),), ((1,), 0)
        many = sum([len(case[0]) for case in least_from(saying, 1, floor)[1]])
        with mock.patch("sumsaid.cases.MOST_LINES", many):
            self.assertEqual(value(least_from(saying, 1, floor), (4,)), 5)
        with mock.patch("sumsaid.cases.MOST_LINES", many - 1):
            with self.assertRaises(TooLarge):
                least_from(saying, 1, floor)


class Greatest(unittest.TestCase):
    def test_examples(self):
        function = greatest_to(EVEN, 1, ((1,), 0))
        self.assertEqual(function[0], "greatest")
        self.assertEqual([value(function, (x,)) for x in (-3, -2, 0, 1)], [-4, -2, 0, 0])

    def test_no_solution(self):
        self.assertIsNone(value(greatest_to(NEVER, 0, ((), 9)), ()))
        self.assertIsNone(value(greatest_to((("below", (0, -1), -9),), 1, ((1,), 0)), (9,)))
        self.assertEqual(value(greatest_to((("below", (0, -1), -9),), 1, ((1,), 0)), (10,)), 10)

    def test_small_sayings(self):
        dice = random.Random(16)
        for _ in range(250):
            count = dice.choice((0, 1, 1, 2))
            saying, roof = widened(dice, small(dice, count, 1), count + 1), some_sum(dice, count)
            function = greatest_to(saying, count, roof)
            holds = trial(saying, count + 1, {})
            self.assertEqual(function[0], "greatest")
            for _ in range(4):
                given = some_given(dice, count)
                high = sum_worth(roof, given)
                found = first_solution(holds, given, high, -1)
                self.assertEqual(value(function, given), found, (saying, count, roof, given))
                fault = fault_of_cases(function, given, lambda y: y <= high and holds(*given, y))
                self.assertIsNone(fault, (saying, count, roof, given))


class Extremes(unittest.TestCase):
    def test_lowest(self):
        far, function = lowest(ABOUT_TWICE, 1)
        self.assertFalse(says(far, (4,)))
        self.assertEqual(function[0], "least")
        self.assertEqual([value(function, (x,)) for x in (-3, 0, 10 ** 12)], [-6, 0, 2 * 10 ** 12])
        far, _ = lowest(EVEN, 1)
        self.assertTrue(says(far, (4,)))

    def test_highest(self):
        far, function = highest(ABOUT_TWICE, 1)
        self.assertFalse(says(far, (4,)))
        self.assertEqual(function[0], "greatest")
        self.assertEqual([value(function, (x,)) for x in (-3, 0, 10 ** 12)], [-5, 1, 2 * 10 ** 12 + 1])

    def test_far_away_for_some_values_only(self):
        # For even x all numbers below x, for odd x none.
        saying = (("rest", (1,), 2, 0), ("below", (-1, 1), 0), ("both", 0, 1))
        far, _ = lowest(saying, 1)
        self.assertEqual([says(far, (x,)) for x in (-2, -1, 0, 1)], [True, False, True, False])
        far, function = highest(saying, 1)
        self.assertEqual([says(far, (x,)) for x in (-2, -1, 0, 1)], [False] * 4)
        self.assertEqual([value(function, (x,)) for x in (-2, 0, 6)], [-3, -1, 5])

    def test_small_sayings(self):
        dice = random.Random(17)
        for _ in range(250):
            count = dice.choice((0, 1, 1, 2))
            saying = widened(dice, small(dice, count, 1), count + 1)
            holds = trial(saying, count + 1, {})
            low, low_function = lowest(saying, count)
            high, high_function = highest(saying, count)
            self.assertTrue(is_plain(low) and is_plain(high))
            self.assertEqual((low_function[0], high_function[0]), ("least", "greatest"))
            for _ in range(4):
                given = some_given(dice, count)
                solutions = [y for y in range(-150, 151) if holds(*given, y)]
                goes_down = bool(solutions) and solutions[0] < -120
                goes_up = bool(solutions) and solutions[-1] > 120
                self.assertEqual((says(low, given), says(high, given)), (goes_down, goes_up), (saying, given))
                if solutions and not goes_down:
                    self.assertEqual(value(low_function, given), solutions[0], (saying, given))
                if solutions and not goes_up:
                    self.assertEqual(value(high_function, given), solutions[-1], (saying, given))


class BestSum(unittest.TestCase):
    def test_several_sought_numbers(self):
        # y and z are not below 0, and 2y + 3z is at most x; the sum is 4y + 5z + x.
        lines = (("below", (0, -1), 1), ("below", (0, 0, -1), 1), ("below", (-1, 2, 3), 1), ("both", 0, 1), ("both", 2, 3))
        far, function = best_sum(lines, 1, 2, ((1, 4, 5), -7))
        self.assertEqual(function[0], "greatest")
        for x in range(-3, 30):
            sums = [x + 4 * y + 5 * z - 7 for y in range(20) for z in range(20) if 2 * y + 3 * z <= x]
            self.assertFalse(says(far, (x,)) and sums)
            if sums:
                self.assertEqual(value(function, (x,)), max(sums))

    def test_three_sought_numbers(self):
        lines = [("below", tuple([0] * k + [1]), 4 + k) for k in range(3)]
        saying = tuple(lines) + (("both", 0, 1), ("both", 2, 3))
        far, function = best_sum(saying, 0, 3, ((1, 2, 3), 1))
        self.assertFalse(says(far, ()))
        self.assertEqual(value(function, ()), 3 + 2 * 4 + 3 * 5 + 1)
        far, _ = best_sum(saying, 0, 3, ((1, 2, -3), 1))
        self.assertTrue(says(far, ()))

    def test_a_goal_without_sought_numbers(self):
        far, function = best_sum((("below", (1, -1), 0), ("rest", (1,), 2, 0), ("both", 0, 1)), 1, 1, ((3,), 1))
        self.assertFalse(says(far, (4,)))
        self.assertEqual(value(function, (4,)), 13)
        self.assertEqual(value(best_sum(ALWAYS, 0, 1, ((), 7))[1], ()), 7)

    def test_factors_of_numbers_that_are_not_there(self):
        far, function = best_sum((("below", (1,), 9),), 0, 1, ((1, 5, 5), 0))
        self.assertFalse(says(far, ()))
        self.assertEqual(value(function, ()), 8)

    def test_small_sayings(self):
        dice = random.Random(18)
        for _ in range(200):
            count = dice.choice((0, 1, 2))
            saying = widened(dice, small(dice, count, 1), count + 1)
            goal = tuple([dice.randint(-2, 2) for _ in range(count)]) + (dice.randint(-1, 1),), dice.randint(-20, 20)
            far, function = best_sum(saying, count, 1, goal)
            self.assertTrue(is_plain(far))
            holds = trial(saying, count + 1, {})
            for _ in range(4):
                given = some_given(dice, count)
                sought = [y for y in range(-150, 151) if holds(*given, y)]
                sums = sorted([sum_worth(goal, given + (y,)) for y in sought])
                goes_up = any(goal[0][-1] * y > 120 for y in sought)
                self.assertEqual(says(far, given), goes_up, (saying, count, goal, given))
                if sums and not goes_up:
                    self.assertEqual(value(function, given), sums[-1], (saying, count, goal, given))


class OfFunctions(unittest.TestCase):
    def test_no_cases(self):
        empty = ("greatest", ())
        self.assertFalse(says(graph(empty, 1), (1, 2)))
        self.assertFalse(says(domain(empty, 1), (1,)))
        self.assertEqual(restricted(empty, ALWAYS, 1), empty)
        self.assertEqual(inverse(empty, ((1,), 0)), ("least", ()))
        self.assertEqual(composed(empty, empty, 1), ("least", ()))

    def test_graph(self):
        dice = random.Random(19)
        for _ in range(120):
            count = dice.choice((0, 1, 1, 2))
            function = some_function(dice, count)
            saying, there = graph(function, count), domain(function, count)
            self.assertTrue(is_plain(saying) and is_plain(there))
            for _ in range(4):
                given = some_given(dice, count)
                worth = plain_value(function, given)
                self.assertEqual(says(there, given), worth is not None, (function, given))
                for y in range(-60, 61):
                    self.assertEqual(says(saying, given + (y,)), y == worth, (function, given, y))

    def test_graph_of_made_up_functions(self):
        # Conditions and sums may name numbers that are not there.
        function = ("least", (((("below", (0, 1), 1),), (2, 5), 1, 1), (ALWAYS, (), 9, 1)))
        saying = graph(function, 1)
        self.assertEqual([y for y in range(-30, 30) if says(saying, (2, y))], [5])
        self.assertEqual([y for y in range(-30, 30) if says(saying, (6, y))], [9])
        half = ("greatest", (((("rest", (1,), 2, 0),), (1,), 0, 2),))
        self.assertEqual([y for y in range(-30, 30) if says(graph(half, 1), (-8, y))], [-4])
        self.assertFalse(any(says(graph(half, 1), (7, y)) for y in range(-30, 30)))

    def test_restricted(self):
        dice = random.Random(20)
        for _ in range(120):
            count = dice.choice((0, 1, 1, 2))
            function, saying = some_function(dice, count), widened(dice, small(dice, count, 0, 2), count)
            less = restricted(function, saying, count)
            self.assertEqual(less[0], function[0])
            holds = trial(saying, count, {})
            for _ in range(6):
                given = some_given(dice, count)
                worth = plain_value(function, given) if holds(*given) else None
                self.assertEqual(value(less, given), worth, (function, saying, given))

    def test_restricted_by_there(self):
        halves = (("below", (1, -2), 1), ("below", (-1, 2), 1), ("both", 0, 1), ("there", 2))
        function = restricted(least_from(ALWAYS, 1, ((1,), 5)), halves, 1)
        self.assertEqual([value(function, (x,)) for x in range(4)], [5, None, 7, None])

    def test_either(self):
        self.assertEqual(value(either(constants("least", 4), constants("least", 2)), ()), 2)
        self.assertEqual(value(either(constants("greatest", 4), constants("greatest", 2)), ()), 4)
        self.assertEqual(value(either(("least", ()), constants("least", 2)), ()), 2)
        self.assertEqual(value(either(constants("least", 2), ("least", ())), ()), 2)
        self.assertIsNone(value(either(("least", ()), ("least", ())), ()))
        self.assertEqual(either(("greatest", ()), ("greatest", ()))[0], "greatest")
        dice = random.Random(21)
        for _ in range(100):
            first, second = some_function(dice, 1), some_function(dice, 1)
            if first[0] != second[0]:
                continue
            both = either(first, second)
            self.assertEqual(both[0], first[0])
            for x in range(-20, 21):
                worths = [plain_value(function, (x,)) for function in (first, second)]
                worths = [worth for worth in worths if worth is not None]
                best = (min if first[0] == "least" else max)(worths, default=None)
                self.assertEqual(value(both, (x,)), best, (first, second, x))


class Inverse(unittest.TestCase):
    def test_examples(self):
        # The value at x is the least even number that is not below x.
        up = least_from(EVEN, 1, ((1,), 0))
        self.assertEqual([value(inverse(up, ((), -100)), (y,)) for y in (-2, 3, 8)], [-3, None, 7])
        # A floor that depends on the value, also with factors of numbers that are not there.
        self.assertEqual([value(inverse(up, ((1, 7, 7), 0)), (y,)) for y in (-2, 3, 8)], [-2, None, 8])
        self.assertIsNone(value(inverse(up, ((1,), 1)), (8,)))

    def test_cases_that_hold_together(self):
        cases = ((ALWAYS, (1,), 0, 1), (ALWAYS, (), 5, 1))
        least, greatest = (inverse((kind, cases), ((), -50)) for kind in ("least", "greatest"))
        self.assertEqual([value(least, (y,)) for y in (3, 4, 5, 6)], [3, 4, 5, None])
        self.assertEqual([value(greatest, (y,)) for y in (4, 5, 6, 7)], [None, -50, 6, 7])

    def test_a_value_that_goes_on(self):
        five = ("least", ((ALWAYS, (), 5, 1),))
        self.assertEqual(value(inverse(five, ((2,), -3)), (5,)), 7)
        self.assertIsNone(value(inverse(five, ((2,), -3)), (4,)))

    def test_functions_of_small_sayings(self):
        dice = random.Random(22)
        for _ in range(120):
            function, floor = some_function(dice, 1, 2), some_sum(dice, 1)
            back = inverse(function, floor)
            self.assertEqual(back[0], "least")
            worths = {x: plain_value(function, (x,)) for x in range(-160, 161)}
            for y in range(-30, 31, dice.randint(1, 9)):
                low = sum_worth(floor, (y,))
                found = min([x for x in worths if worths[x] == y and x >= low], default=None)
                self.assertEqual(value(back, (y,)), found, (function, floor, y))
                fault = fault_of_cases(back, (y,), lambda x: x >= low and plain_value(function, (x,)) == y)
                self.assertIsNone(fault, (function, floor, y))


class Composed(unittest.TestCase):
    def test_examples(self):
        half = ("greatest", (((("rest", (1,), 2, 0),), (1,), 0, 2),))
        further = ("greatest", (((("rest", (0, 1), 3, 0),), (1, 1), 0, 3), (NEVER, (), 99, 1)))
        both = composed(half, further, 1)
        self.assertEqual(both[0], "least")
        self.assertEqual([value(both, (x,)) for x in (0, 3, 4, 6, 12, -6)], [0, None, None, 3, 6, -3])

    def test_the_value_of_the_first_one_alone_counts(self):
        # The value is 1, and not 2, which the second function would make a lesser value of.
        first = constants("least", 1, 2)
        second = ("least", ((ALWAYS, (-1,), 10, 1),))
        self.assertEqual(value(composed(first, second, 0), ()), 9)
        self.assertEqual(value(composed(constants("greatest", 1, 2), second, 0), ()), 8)

    def test_the_greatest_value_of_the_second_one(self):
        second = ("greatest", ((ALWAYS, (1,), 0, 1), (ALWAYS, (2,), 0, 1)))
        self.assertEqual(value(composed(constants("least", 4), second, 0), ()), 8)
        self.assertEqual(value(composed(constants("least", -4), second, 0), ()), -4)

    def test_functions_of_small_sayings(self):
        dice = random.Random(23)
        for _ in range(150):
            count = dice.choice((0, 1))
            first = some_function(dice, count, 2)
            second = some_function(dice, count + 1, 3 - len(first[1]))
            both = composed(first, second, count)
            self.assertEqual(both[0], "least")
            for _ in range(8):
                given = some_given(dice, count)
                inner = plain_value(first, given)
                worth = None if inner is None else plain_value(second, given + (inner,))
                self.assertEqual(value(both, given), worth, (first, second, given))
                self.assertIsNone(fault_of_cases(both, given, lambda y: True), (first, second, given))


class Far(unittest.TestCase):
    def test_values_of_far_numbers(self):
        dice = random.Random(24)
        for _ in range(100):
            count = dice.choice((1, 2))
            saying, limit = tuple(small(dice, count, 1)), some_sum(dice, count)
            given = tuple([dice.choice((-1, 1)) * dice.randrange(10 ** 30) for _ in range(count)])
            far = trial(saying, count + 1, {})
            least = value(least_from(saying, count, limit), given)
            greatest = value(greatest_to(saying, count, limit), given)
            bound = sum_worth(limit, given)
            if least is not None:
                self.assertTrue(far(*given, least) and least >= bound)
                self.assertFalse(any(far(*given, y) for y in range(max(bound, least - 50), least)))
            if greatest is not None:
                self.assertTrue(far(*given, greatest) and greatest <= bound)
                self.assertFalse(any(far(*given, y) for y in range(greatest + 1, min(bound, greatest + 50) + 1)))
            near = [y for y in range(bound, bound + 30) if far(*given, y)]
            self.assertTrue(not near or least == near[0])
            near = [y for y in range(bound, bound - 30, -1) if far(*given, y)]
            self.assertTrue(not near or greatest == near[0])


if __name__ == "__main__":
    unittest.main()
