"""What is asked of sayings and functions for all values: promises 20 to 22."""

import itertools
import random
import unittest

from sumsaid.functions import greatest_to, judge, least_from, parting, some_values, value
from sumsaid.sayings import says
from tests.trying import (
    comparison, fault_of_cases, first_solution, of_theres, plain_value, shifted, small, some_factors, some_function,
    some_given, some_sum, sum_worth, trial, widened, widened_function,
)

ALWAYS = (("below", (), 1),)
NEVER = (("below", (), 0),)


def nearness(values):
    """Sorts values as promise 20 does: the nearest to 0 first, the greater one of two."""
    return [(abs(x), -x) for x in values]


def near(most):
    """The numbers from -most to most, the nearest ones to 0 first."""
    return sorted(range(-most, most + 1), key=lambda x: (abs(x), -x))


class SomeValues(unittest.TestCase):
    def test_no_given_numbers(self):
        self.assertEqual(some_values(ALWAYS, 0), ())
        self.assertIsNone(some_values(NEVER, 0))
        self.assertEqual(some_values((("rest", (2,), 7, 3), ("there", 0)), 0), ())
        self.assertIsNone(some_values((("rest", (2,), 4, 3), ("there", 0)), 0))

    def test_nearest_to_zero(self):
        self.assertEqual(some_values((("below", (1,), 10),), 1), (0,))
        self.assertEqual(some_values((("below", (1,), -10),), 1), (-11,))
        self.assertEqual(some_values((("below", (-1,), -10),), 1), (11,))
        # 3 and -3 are as near: the greater one.
        self.assertEqual(some_values((("rest", (1,), 6, 3),), 1), (3,))
        self.assertEqual(some_values((("rest", (1,), 5, 3),), 1), (-2,))
        self.assertIsNone(some_values((("rest", (2,), 4, 1),), 1))

    def test_one_number_after_the_other(self):
        # 3 * x0 + 5 * x1 = 1: x0 is 2 and x1 -1; x0 nearest to 0 is what counts first.
        equal = (("below", (3, 5), 2), ("below", (-3, -5), 0), ("both", 0, 1))
        self.assertEqual(some_values(equal, 2), (2, -1))
        self.assertEqual(some_values((("below", (-2, -1, 1), -20), ("below", (0, 1), 7), ("both", 0, 1)), 3), (0, 0, -21))

    def test_numbers_that_are_not_asked_for_count_as_0(self):
        self.assertEqual(some_values((("below", (-1, 5), -3),), 1), (4,))

    def test_far_values(self):
        saying = (("below", (-1, 9), -99), ("below", (0, -1, 9), -99), ("both", 0, 1), ("below", (0, 0, -1), -98),
                  ("both", 2, 3))
        # The numbers 1 and 2 can be far below 0, so that the first one is 0 only if the others are not.
        self.assertEqual(some_values(saying, 3), (9 * (9 * 99 + 100) + 100, 9 * 99 + 100, 99))

    def test_small_sayings(self):
        dice = random.Random(31)
        for _ in range(250):
            count = dice.choice((0, 1, 1, 2))
            saying = widened(dice, small(dice, count, 0), count)
            holds = trial(saying, count, {})
            found = some_values(saying, count)
            tried = next((given for given in itertools.product(near(40), repeat=count) if holds(*given)), None)
            if found is not None:
                self.assertEqual(len(found), count)
                self.assertTrue(holds(*found))
            if found is None or all(abs(x) <= 40 for x in found):
                self.assertEqual(found, tried, saying)
            elif tried is not None:
                self.assertLess(nearness(found), nearness(tried), saying)

    def test_wide_sayings(self):
        dice = random.Random(32)
        for _ in range(150):
            lines = []
            for _ in range(3):
                modulus = dice.randint(1, 12)
                factors = (dice.randint(-9, 9), dice.randint(-9, 9))
                lines.append(("rest", factors, modulus, dice.randrange(modulus)) if dice.random() < 0.6
                             else ("below", factors, dice.randint(-99, 99)))
            for _ in range(dice.randint(0, 30)):
                first, second = dice.randrange(len(lines)), dice.randrange(len(lines))
                lines.append(("not", first) if dice.random() < 0.5 else ("both", first, second))
            saying = tuple(lines)
            tried = next(((x,) for x in near(1500) if says(saying, (x,))), None)
            self.assertEqual(some_values(saying, 1), tried, saying)

    def test_sayings_with_there(self):
        dice = random.Random(33)
        for _ in range(60):
            saying = of_theres(dice, 0)
            tried = next(((x,) for x in near(60) if says(saying, (x,))), None)
            self.assertEqual(some_values(saying, 1), tried, saying)


class Parting(unittest.TestCase):
    def test_the_same(self):
        first = least_from((("rest", (0, 1), 2, 0),), 1, ((1,), 0))
        # The least even number that is at least x, with one case for each remainder of x.
        second = ("least", (((("rest", (1,), 2, 0),), (1,), 0, 1), ((("rest", (1,), 2, 1),), (1,), 1, 1)))
        self.assertIsNone(parting(first, second, 1))
        self.assertIsNone(parting(first, ("greatest", second[1]), 1))
        self.assertIsNone(parting(("greatest", second[1][::-1] + second[1]), first, 1))

    def test_no_cases(self):
        self.assertIsNone(parting(("least", ()), ("greatest", ()), 1))
        self.assertIsNone(parting(("least", ()), ("least", ((NEVER, (1,), 0, 1),)), 1))
        self.assertEqual(parting(("least", ()), ("least", ((ALWAYS, (1,), 0, 1),)), 2), (0, 0))

    def test_no_given_numbers(self):
        three, four = (("greatest", ((ALWAYS, (), number, 1),)) for number in (3, 4))
        self.assertEqual(parting(three, four, 0), ())
        self.assertIsNone(parting(three, ("least", three[1]), 0))

    def test_one_has_no_value(self):
        some = ("least", (((("below", (1,), -4),), (1,), 0, 1),))
        every = ("least", ((ALWAYS, (1,), 0, 1),))
        self.assertEqual(parting(some, every, 1), (0,))
        self.assertEqual(parting(("least", ((NEVER, (), 0, 1),)), some, 1), (-5,))
        self.assertEqual(parting(some, ("least", ()), 1), (-5,))

    def test_other_values(self):
        # x and 2x - 7 are the same for 7 only.
        line = ("greatest", ((ALWAYS, (1,), 0, 1),))
        other = ("greatest", ((ALWAYS, (2,), -7, 1),))
        self.assertEqual(parting(line, other, 1), (0,))
        seven = (("below", (1,), 8), ("below", (-1,), -6), ("both", 0, 1))
        self.assertIsNone(parting(("greatest", ((seven, (1,), 0, 1),)), ("least", ((seven, (2,), -7, 1),)), 1))
        # The greater one of x and 0 differs from x below 0 alone.
        self.assertEqual(parting(line, ("greatest", line[1] + ((ALWAYS, (), 0, 1),)), 1), (-1,))
        self.assertEqual(parting(("least", line[1] + ((ALWAYS, (), 0, 1),)), line, 1), (1,))

    def test_two_given_numbers(self):
        first = ("least", ((ALWAYS, (1, 0), 0, 1), (ALWAYS, (0, 1), 0, 1)))
        second = ("least", ((ALWAYS, (1, 0), 0, 1), (ALWAYS, (0, 1), 3, 1)))
        self.assertEqual(parting(first, second, 2), (0, -1))
        self.assertIsNone(parting(first, ("least", first[1][::-1]), 2))
        self.assertEqual(parting(first, ("greatest", first[1]), 2), (0, 1))

    def test_functions_of_small_sayings(self):
        dice = random.Random(34)
        for _ in range(250):
            count = dice.choice((0, 1))
            first = some_function(dice, count, 2)
            cases = [case for case in first[1] + first[1] if dice.random() < 0.7]
            second = (first[0], tuple(cases)) if dice.random() < 0.6 else some_function(dice, count, 2)
            found = parting(first, second, count)
            if count == 0:
                differ = plain_value(first, ()) != plain_value(second, ())
                self.assertEqual(found, () if differ else None, (first, second))
                continue
            tried = next((x for x in near(120) if plain_value(first, (x,)) != plain_value(second, (x,))), None)
            self.assertEqual(found, None if tried is None else (tried,), (first, second))


def changed(dice, function, count):
    """A function with something changed, which may be right nevertheless."""
    cases = [list(case) for case in function[1]]
    if not cases:
        return function
    case = dice.choice(cases)
    way = dice.randrange(7)
    if way == 0:
        cases.remove(case)
    elif way == 1:
        case[2] += dice.choice((-3, -1, 1, 2, case[3]))
    elif way == 2:
        case[0] = case[0] + (comparison(dice, some_factors(dice, count, 0)), ("both", len(case[0]) - 1, len(case[0])))
    elif way == 3:
        case[3] *= 2
    elif way == 4:
        case[1:] = [tuple([2 * factor for factor in case[1]]), 2 * case[2], 2 * case[3]]
    elif way == 5:
        cases = cases + cases[:1]
    else:
        case[0] = (comparison(dice, some_factors(dice, count, 0)),)
    return function[0], tuple([tuple(case) for case in cases])


def is_right(saying, count, floor, function, many):
    """Whether a function is right for values of a range, by plain trying."""
    holds = trial(saying, count + 1, {})
    for given in itertools.product(range(-many, many + 1), repeat=count):
        low = sum_worth(floor, given)
        if fault_of_cases(function, given, lambda y: y >= low and holds(*given, y)) is not None:
            return False
        if plain_value(function, given) != first_solution(holds, given, low, 1):
            return False
    return True


class Judge(unittest.TestCase):
    EVEN = (("rest", (0, 1), 2, 0),)
    RIGHT = ("least", (((("rest", (1,), 2, 0),), (1,), 0, 1), ((("rest", (1,), 2, 1),), (1,), 1, 1)))

    def test_right(self):
        self.assertIs(judge(self.EVEN, 1, ((1,), 0), self.RIGHT), True)
        self.assertIs(judge(self.EVEN, 1, ((1, 5, 5), 0), self.RIGHT), True)
        self.assertIs(judge(NEVER, 1, ((1,), 0), ("least", ())), True)
        self.assertIs(judge(ALWAYS, 0, ((), 3), ("least", ((ALWAYS, (), 3, 1),))), True)

    def test_the_kind(self):
        self.assertIs(judge(self.EVEN, 1, ((1,), 0), ("greatest", self.RIGHT[1])), False)
        self.assertIs(judge(NEVER, 1, ((1,), 0), ("greatest", ())), False)

    def test_a_further_solution_does_not_matter(self):
        more = ("least", self.RIGHT[1] + (((("rest", (1,), 2, 0),), (1,), 2, 1),))
        self.assertTrue(judge(self.EVEN, 1, ((1,), 0), more))

    def test_a_case_that_gives_no_solution(self):
        more = ("least", self.RIGHT[1] + (((("rest", (1,), 2, 0),), (1,), 3, 1),))
        self.assertFalse(judge(self.EVEN, 1, ((1,), 0), more))
        never = ("least", self.RIGHT[1] + ((NEVER, (1,), 3, 1),))
        self.assertTrue(judge(self.EVEN, 1, ((1,), 0), never))

    def test_a_case_below_the_floor(self):
        self.assertFalse(judge(self.EVEN, 1, ((1,), 1), self.RIGHT))
        self.assertFalse(judge(self.EVEN, 0, ((), 1), ("least", ((ALWAYS, (), 0, 1), (ALWAYS, (), 2, 1)))))

    def test_a_solution_that_is_missed(self):
        self.assertFalse(judge(self.EVEN, 1, ((1,), -1), self.RIGHT))
        self.assertFalse(judge(self.EVEN, 1, ((1,), 0), ("least", self.RIGHT[1][:1])))
        self.assertFalse(judge(self.EVEN, 1, ((1,), 0), ("least", ())))
        # Missed for one value alone, far away.
        all_but = (("below", (1,), 99), ("not", 0), ("below", (1,), 98), ("not", 1), ("not", 2), ("both", 3, 4),
                   ("not", 5))
        self.assertFalse(judge(ALWAYS, 1, ((1,), 0), ("least", ((all_but, (1,), 0, 1),))))

    def test_a_remainder(self):
        # The half of x + 1, rounded down, is right, but does not always come out without a remainder.
        half = (("below", (1, -2), 1),)
        rounded = ("least", ((ALWAYS, (1,), 1, 2),))
        self.assertFalse(judge(half, 1, ((), -99), rounded))
        self.assertFalse(judge(half, 0, ((), 0), ("least", ((ALWAYS, (), 1, 2),))))
        self.assertTrue(judge(half, 0, ((), 0), ("least", ((ALWAYS, (), 0, 2),))))

    def test_conditions_about_numbers_that_are_not_there(self):
        odd = ("least", (((("below", (0, 1), 1),), (1, 4), 0, 1),))
        self.assertTrue(judge(ALWAYS, 1, ((1,), 0), odd))

    def test_sayings_with_there(self):
        twice = (("below", (0, 1, -2), 1), ("below", (0, -1, 2), 1), ("both", 0, 1), ("there", 2))
        self.assertTrue(judge(twice, 1, ((1,), 0), self.RIGHT))
        self.assertFalse(judge(twice, 1, ((1,), 1), self.RIGHT))

    def test_what_least_from_returns(self):
        dice = random.Random(35)
        for _ in range(150):
            count = dice.choice((0, 1, 1, 2))
            saying, floor = widened(dice, small(dice, count, 1, 2), count + 1), some_sum(dice, count)
            self.assertTrue(judge(saying, count, floor, least_from(saying, count, floor)), (saying, count, floor))
            roof = greatest_to(saying, count, floor)
            self.assertFalse(judge(saying, count, floor, roof), (saying, count, floor))

    def test_functions_that_are_changed(self):
        dice = random.Random(36)
        tried = {True: 0, False: 0}
        while min(tried.values()) < 60:
            count = dice.choice((0, 1))
            saying, floor = widened(dice, small(dice, count, 1, 2), count + 1), some_sum(dice, count)
            function = least_from(saying, count, floor)
            if len(function[1]) > 2:
                continue
            function = widened_function(dice, changed(dice, function, count), count)
            right = is_right(saying, count, floor, function, 40)
            tried[right] += 1
            self.assertEqual(judge(saying, count, floor, function), right, (saying, count, floor, function))

    def test_more_lines_than_a_saying_has(self):
        saying = (("below", (1, -1), 1), ("rest", (0, 1), 3, 1), ("both", 0, 1))
        lines = shifted(saying[:2], 0) + [("both", 0, 1)] + [("both", k, k) for k in range(2, 60)]
        function = least_from(tuple(lines), 1, ((), -50))
        self.assertTrue(judge(saying, 1, ((), -50), function))
        self.assertEqual(value(function, some_given(random.Random(1), 1, 0)), 1)


if __name__ == "__main__":
    unittest.main()
