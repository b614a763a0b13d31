"""Shapes of functions of one number: promises 25 to 27."""

import random
import unittest
from fractions import Fraction
from math import gcd

from sumsaid.errors import TooLarge
from sumsaid.functions import either, graph, least_from, parting, restricted, value
from sumsaid.shapes import image, is_rising, shape_of, value_at
from tests.trying import fault_of, holds_in, plain_value, some_function

ALWAYS = (("below", (), 1),)
NEVER = (("below", (), 0),)
NONE = ((None,), 0, (), (None,))


def below(bound):
    """The saying: the number is less than a bound."""
    return (("below", (1,), bound),)


def from_on(bound):
    """The saying: the number is at least a bound."""
    return (("below", (-1,), 1 - bound),)


def line_worth(lines, x):
    """The value of the line of a number, word by word as the document says."""
    line = lines[x % len(lines)]
    if line is None:
        return None
    a, b, c, d = line
    return Fraction(a, b) * x + Fraction(c, d)


def fault_of_shape(shape):
    """Why a shape is not written in its one way, or None."""
    left, start, middle, right = shape
    for lines in (left, right):
        for line in lines:
            if line is not None and (gcd(line[0], line[1]) != 1 or gcd(line[2], line[3]) != 1 or min(line[1::2]) < 1):
                return "a line is not in lowest terms"
        for width in range(1, len(lines)):
            if len(lines) % width == 0 and lines == lines[:width] * (len(lines) // width):
                return "a row of lines is too long"
    if left == right and all(worth == line_worth(left, start + k) for k, worth in enumerate(middle)):
        return None if start == 0 and middle == () else "lines that give all values have a start or a middle"
    if middle:
        if middle[0] == line_worth(left, start):
            return "the first value of middle is that of left"
        last = start + len(middle) - 1
        return "the last value of middle is that of right" if middle[-1] == line_worth(right, last) else None
    return "start is too late" if line_worth(left, start - 1) == line_worth(right, start - 1) else None


def opposed(function):
    """The function of the other kind with the negative sums."""
    kind = "greatest" if function[0] == "least" else "least"
    cases = [(condition, tuple([-factor for factor in factors]), -constant, divisor)
             for condition, factors, constant, divisor in function[1]]
    return kind, tuple(cases)


def mixed(dice, function):
    """The same function with its cases in another order, and some of them doubled."""
    cases = list(function[1]) + [case for case in function[1] if dice.random() < 0.3]
    dice.shuffle(cases)
    return function[0], tuple(cases)


class Shapes(unittest.TestCase):
    def test_no_values(self):
        self.assertEqual(shape_of(("least", ())), NONE)
        self.assertEqual(shape_of(("greatest", ((NEVER, (1,), 0, 1),))), NONE)

    def test_one_line(self):
        self.assertEqual(shape_of(("least", ((ALWAYS, (2,), -7, 1),))), (((2, 1, -7, 1),), 0, (), ((2, 1, -7, 1),)))
        self.assertEqual(shape_of(("greatest", ((ALWAYS, (), 4, 1),))), (((0, 1, 4, 1),), 0, (), ((0, 1, 4, 1),)))
        self.assertEqual(shape_of(("least", ((ALWAYS, (4,), 6, 2),))), (((2, 1, 3, 1),), 0, (), ((2, 1, 3, 1),)))

    def test_lowest_terms(self):
        third = ("least", (((("rest", (1,), 3, 1),), (2,), 4, 6),))
        line = (1, 3, 2, 3)
        self.assertEqual(shape_of(third), ((None, line, None), 0, (), (None, line, None)))
        whole = ("least", (((("rest", (1,), 3, 0),), (-2,), 0, 6),))
        self.assertEqual(shape_of(whole)[0], ((-1, 3, 0, 1), None, None))

    def test_one_number_is_otherwise(self):
        # Nowhere but at 5: left and right are equal, and do not give all values.
        five = (("below", (1,), 6), ("below", (-1,), -4), ("both", 0, 1))
        self.assertEqual(shape_of(("least", ((five, (3,), 1, 1),))), ((None,), 5, (16,), (None,)))
        hole = five + (("not", 2),)
        line = (3, 1, 1, 1)
        self.assertEqual(shape_of(("least", ((hole, (3,), 1, 1),))), ((line,), 5, (None,), (line,)))

    def test_two_sides(self):
        size = ("greatest", ((ALWAYS, (1,), 0, 1), (ALWAYS, (-1,), 0, 1)))
        # At 0 both lines give the value: q is at most p there.
        self.assertEqual(shape_of(size), (((-1, 1, 0, 1),), 0, (), ((1, 1, 0, 1),)))
        self.assertEqual(shape_of(("least", ((below(7), (1,), 0, 1),))), (((1, 1, 0, 1),), 7, (), (None,)))
        self.assertEqual(shape_of(("least", ((from_on(7), (1,), 0, 1),))), ((None,), 7, (), ((1, 1, 0, 1),)))

    def test_a_middle(self):
        function = ("least", ((ALWAYS, (1,), 0, 1), (ALWAYS, (), 2, 1), (below(-1), (2,), 1, 1)))
        # The lines 2x + 1, then x, then 2; at -1 both 2x + 1 and x, at 2 both x and 2.
        self.assertEqual(shape_of(function), (((2, 1, 1, 1),), 0, (0, 1), ((0, 1, 2, 1),)))

    def test_crossing_between_numbers(self):
        function = ("least", ((ALWAYS, (2,), 0, 1), (ALWAYS, (-1,), 5, 1)))
        self.assertEqual(shape_of(function), (((2, 1, 0, 1),), 2, (), ((-1, 1, 5, 1),)))

    def test_lines_that_agree_for_one_number(self):
        # Between 10 and 40 the line x, elsewhere 2x - 12: they agree at 12.
        inner = from_on(10) + below(40) + (("both", 0, 1),)
        outer = inner + (("not", 2),)
        shape = shape_of(("least", ((inner, (1,), 0, 1), (outer, (2,), -12, 1))))
        line = (2, 1, -12, 1)
        self.assertEqual(shape, ((line,), 10, tuple(range(10, 40)), (line,)))
        for low, high, start, middle in ((12, 40, 13, range(13, 40)), (8, 13, 8, range(8, 12)), (12, 14, 13, (13,))):
            inner = from_on(low) + below(high) + (("both", 0, 1),)
            outer = inner + (("not", 2),)
            shape = shape_of(("least", ((inner, (1,), 0, 1), (outer, (2,), -12, 1))))
            self.assertEqual(shape, ((line,), start, tuple(middle), (line,)))
        inner = from_on(12) + below(13) + (("both", 0, 1),)
        outer = inner + (("not", 2),)
        self.assertEqual(shape_of(("least", ((inner, (1,), 0, 1), (outer, (2,), -12, 1)))), ((line,), 0, (), (line,)))

    def test_far_bounds_without_a_middle(self):
        # What changes far away, but has the same values, does not make it too large.
        far = 10 ** 20
        line = ((1, 1, 0, 1),)
        self.assertEqual(shape_of(("least", ((below(far), (1,), 0, 1), (from_on(-far), (1,), 0, 1)))), (line, 0, (), line))
        self.assertEqual(shape_of(("least", ((from_on(far), (1,), 0, 1),))), ((None,), far, (), line))

    def test_too_large(self):
        rests = [("least", (((("rest", (1,), modulus, 0),), (1,), 0, 1),)) for modulus in (1009, 1013)]
        self.assertEqual(len(shape_of(rests[0])[0]), 1009)
        with self.assertRaises(TooLarge):
            shape_of(either(rests[0], rests[1]))
        with self.assertRaises(TooLarge):
            shape_of(("least", ((below(-10 ** 20), (1,), 0, 1), (from_on(10 ** 20), (1,), 0, 1))))

    def test_functions_of_small_sayings(self):
        dice = random.Random(25)
        for _ in range(200):
            function = some_function(dice, 1)
            if dice.random() < 0.4:
                function = opposed(function)
            shape = shape_of(function)
            self.assertIsNone(fault_of_shape(shape), function)
            self.assertEqual(shape_of(mixed(dice, function)), shape, function)
            _, start, middle, _ = shape
            further = [dice.randrange(-10 ** 9, 10 ** 9) for _ in range(4)]
            for x in list(range(-40, 41, dice.randint(1, 5))) + list(range(start - 3, start + len(middle) + 3)) + further:
                self.assertEqual(value_at(shape, x), plain_value(function, (x,)), (function, x))

    def test_lines_that_cross_far_away(self):
        dice = random.Random(29)
        for _ in range(200):
            cases = []
            for _ in range(dice.randint(2, 4)):
                factor, constant, divisor = dice.randint(-3, 3), dice.randint(-200, 200), dice.randint(1, 3)
                condition = (("rest", (factor,), divisor, -constant % divisor),)
                cases.append((condition, (factor,), constant, divisor))
            function = dice.choice(("least", "greatest")), tuple(cases)
            shape = shape_of(function)
            self.assertIsNone(fault_of_shape(shape), function)
            _, start, middle, _ = shape
            numbers = list(range(-1300, 1301, dice.randint(3, 9))) + list(range(start - 30, start + 31))
            for x in numbers + list(range(start + len(middle) - 10, start + len(middle) + 30)):
                self.assertEqual(value_at(shape, x), value(function, (x,)), (function, x))

    def test_the_same_shape_if_and_only_if_nowhere_different(self):
        dice = random.Random(26)
        same = 0
        for _ in range(150):
            first = some_function(dice, 1, 3)
            if dice.random() < 0.5:
                second = either(first, (first[0], first[1][:1]))
            else:
                second = restricted(first, (("below", (dice.randint(-2, 2),), dice.randint(-10, 60)),), 1)
            alike = shape_of(first) == shape_of(second)
            same += alike
            self.assertEqual(alike, parting(first, second, 1) is None, (first, second))
        self.assertTrue(10 < same < 140)


class ValueAt(unittest.TestCase):
    SHAPE = (((1, 2, 0, 1), None), 3, (7, None), (None, (-1, 3, 4, 3), (1, 1, 0, 1)))

    def test_each_part(self):
        self.assertEqual([value_at(self.SHAPE, x) for x in (-4, -3, 0, 2)], [-2, None, 0, 1])
        self.assertEqual([value_at(self.SHAPE, x) for x in (3, 4)], [7, None])
        self.assertEqual([value_at(self.SHAPE, x) for x in (5, 6, 7, 8, 10)], [5, None, -1, 8, -2])

    def test_far_values(self):
        self.assertEqual(value_at(self.SHAPE, -10 ** 50), -5 * 10 ** 49)
        self.assertEqual(value_at(self.SHAPE, 3 * 10 ** 50 + 2), 3 * 10 ** 50 + 2)


def values_of(shape, many):
    """The values of a shape in order, on so many numbers to both sides of its middle."""
    _, start, middle, _ = shape
    worths = [value_at(shape, x) for x in range(start - many, start + len(middle) + many)]
    return [worth for worth in worths if worth is not None]


class Rising(unittest.TestCase):
    def test_lines(self):
        for factor, rises in ((0, True), (1, True), (-1, False)):
            self.assertIs(is_rising(shape_of(("least", ((ALWAYS, (factor,), 3, 1),)))), rises)

    def test_no_values_or_one(self):
        self.assertIs(is_rising(NONE), True)
        self.assertIs(is_rising(((None,), 3, (-7,), (None,))), True)

    def test_equal_values(self):
        self.assertTrue(is_rising(((None,), 3, (5, None, 5, None, 6), (None,))))
        self.assertFalse(is_rising(((None,), 3, (5, None, 4), (None,))))

    def test_lines_beside_one_another(self):
        self.assertTrue(is_rising((((1, 1, 0, 1), (1, 1, 1, 1)), 0, (), ((1, 1, 0, 1), (1, 1, 1, 1)))))
        self.assertFalse(is_rising((((1, 1, 0, 1), (1, 1, -2, 1)), 0, (), ((1, 1, 0, 1), (1, 1, -2, 1)))))
        # Steeper lines beside others: above and below one another far away.
        self.assertFalse(is_rising(((None,), 0, (), ((1, 1, 0, 1), (2, 1, 9, 1)))))
        self.assertFalse(is_rising((((1, 1, 0, 1), (2, 1, 9, 1)), -99, (), (None,))))
        self.assertFalse(is_rising(((None,), 1000, (), ((2, 1, 0, 1), (1, 1, 900, 1)))))

    def test_lines_that_come_apart_late(self):
        # On twice as many numbers as there are lines the values rise; further away they do not.
        self.assertFalse(is_rising(((None,), 0, (), ((1, 1, 0, 1), (2, 1, -2, 1)))))
        self.assertFalse(is_rising((((1, 1, 0, 1), (2, 1, 2, 1)), 1, (), (None,))))
        self.assertFalse(is_rising(((None,), 0, (), ((1, 2, 0, 1), (1, 1, -1, 1)))))
        self.assertTrue(is_rising(((None,), 0, (), ((1, 2, 0, 1), (1, 2, -1, 2)))))
        self.assertTrue(is_rising(((None,), 0, (), ((1, 2, 0, 1), None, None))))

    def test_where_parts_meet(self):
        rising = ((1, 1, 0, 1),)
        self.assertTrue(is_rising((rising, 4, (3, 3), rising)))
        self.assertFalse(is_rising((rising, 4, (2,), rising)))
        self.assertFalse(is_rising((rising, 4, (6,), rising)))
        self.assertFalse(is_rising((rising, 4, (), ((1, 1, -2, 1),))))
        self.assertTrue(is_rising((rising, 4, (), ((1, 1, -1, 1),))))
        # What has no values lies between.
        self.assertFalse(is_rising((((0, 1, 9, 1), None), 4, (None, None), (None, None, (0, 1, 8, 1)))))
        self.assertFalse(is_rising(((None, None, (0, 1, 9, 1)), 4, (None, 8), (None,))))

    def test_functions_of_small_sayings(self):
        dice = random.Random(27)
        seen = {True: 0, False: 0}
        for _ in range(300):
            function = some_function(dice, 1)
            shape = shape_of(function if dice.random() < 0.5 else opposed(function))
            worths = values_of(shape, 300)
            rises = all(worth <= further for worth, further in zip(worths, worths[1:]))
            self.assertIs(is_rising(shape), rises, shape)
            seen[rises] += 1
        self.assertGreater(min(seen.values()), 30)


class Image(unittest.TestCase):
    def test_no_values_or_few(self):
        nothing = ((False,), 0, (), (False,))
        self.assertEqual(image(NONE), nothing)
        self.assertEqual(image(((None,), 3, (5, None, 2), (None,))), ((False,), 2, (True, False, False, True), (False,)))
        self.assertEqual(image((((0, 1, 4, 1),), 0, (), ((0, 1, 4, 1),))), ((False,), 4, (True,), (False,)))

    def test_lines(self):
        every = ((True,), 0, (), (True,))
        self.assertEqual(image((((1, 1, 5, 1),), 0, (), ((1, 1, 5, 1),))), every)
        self.assertEqual(image((((-2, 1, 5, 1),), 0, (), ((-2, 1, 5, 1),))), ((False, True), 0, (), (False, True)))
        # Half of each even number.
        self.assertEqual(image((((1, 2, 0, 1), None), 0, (), ((1, 2, 0, 1), None))), every)

    def test_lines_to_one_side(self):
        # |x|: the line -x goes up to the left, from 1 on.
        self.assertEqual(image((((-1, 1, 0, 1),), 0, (), ((1, 1, 0, 1),))), ((False,), 0, (), (True,)))
        self.assertEqual(image(((None,), 5, (), ((2, 1, 0, 1),))), ((False,), 9, (), (True, False)))
        self.assertEqual(image(((None,), 5, (), ((-3, 1, 0, 1),))), ((True, False, False), -14, (), (False,)))
        self.assertEqual(image((((2, 1, 0, 1),), 5, (), (None,))), ((True, False), 9, (), (False,)))
        self.assertEqual(image((((-2, 1, 0, 1),), 5, (), (None,))), ((False,), -9, (), (True, False)))

    def test_lines_with_the_same_values_further_on(self):
        # Even numbers from 0 on, and again from 12 on; and the same downwards.
        up = ((False,), -1, (), (True, False))
        self.assertEqual(image(((None,), 0, (), ((1, 1, 0, 1), (1, 1, 11, 1)))), up)
        self.assertEqual(image(((None,), 0, (), ((1, 1, 12, 1), (1, 1, -1, 1)))), up)
        down = ((True, False), 1, (), (False,))
        self.assertEqual(image(((None,), 0, (), ((-1, 1, 0, 1), (-1, 1, -11, 1)))), down)
        self.assertEqual(image(((None,), 0, (), ((-1, 1, -12, 1), (-1, 1, 1, 1)))), down)

    def test_a_long_middle(self):
        values = [1000 * k for k in range(50)] + [7, 8, 9, None, 7]
        pattern = image(((None,), 5, tuple(values), (None,)))
        self.assertEqual(pattern[:2], ((False,), 0))
        self.assertEqual([k for k, there in enumerate(pattern[2]) if there], sorted(set(values) - {None}))

    def test_far_values(self):
        shape = (((1, 1, 0, 1),), 10 ** 30, (), (None,))
        self.assertEqual(image(shape), ((True,), 10 ** 30, (), (False,)))
        with self.assertRaises(TooLarge):
            image(((None,), 0, (-10 ** 30, 10 ** 30), (None,)))

    def test_functions_of_small_sayings(self):
        dice = random.Random(28)
        for _ in range(200):
            function = some_function(dice, 1)
            shape = shape_of(function if dice.random() < 0.5 else opposed(function))
            pattern = image(shape)
            self.assertIsNone(fault_of(pattern), shape)
            worths = dict.fromkeys(values_of(shape, 700))
            for y in range(-150, 151):
                self.assertEqual(holds_in(pattern, y), y in worths, (shape, y))

    def test_image_and_graph(self):
        function = least_from((("below", (2, -3), 1),), 1, ((), -30))
        pattern = image(shape_of(function))
        saying = graph(function, 1)
        self.assertIsInstance(saying, tuple)
        for y in range(-40, 41):
            self.assertEqual(holds_in(pattern, y), any(plain_value(function, (x,)) == y for x in range(-100, 101)))


if __name__ == "__main__":
    unittest.main()
