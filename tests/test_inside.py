"""What the promises rest on: comparisons and remainders in one way, forms, points, strips."""

import itertools
import random
import unittest

from sumsaid.atoms import inverse_of, neat_below, neat_rest, prime_divisors
from sumsaid.bounds import View
from sumsaid.cases import is_equal, is_less, number_point, put_in
from sumsaid.errors import TooLarge
from sumsaid.forms import FALSE, MOST_STEPS, TRUE, Forms
from sumsaid.joining import all_of, opposite, parts_of, some_of
from sumsaid.placing import FarPoint, Point, with_point
from sumsaid.reading import Reader, Writer
from sumsaid.removal import Remover, groups_of
from sumsaid.sayings import says
from sumsaid.shortening import shortened
from sumsaid.patterns import nearest
from sumsaid.solving import best_cases
from sumsaid.strips import anchored, bits_of, nearest_to_zero, pieces_of, row_of, shortest, stretched, window
from sumsaid.tracing import Trace
from tests.trying import random_pattern, small, trial


def total(factors, values):
    return sum(factor * value for factor, value in zip(factors, values))


def random_rest(dice, many):
    modulus = dice.randint(1, 24)
    residues = [r for r in range(modulus) if dice.random() < dice.choice([0.1, 0.5, 0.9])]
    return [dice.randint(-20, 20) for _ in range(many)], modulus, residues


class Atoms(unittest.TestCase):
    def test_comparisons_say_the_same(self):
        dice = random.Random(41)
        for _ in range(300):
            factors = [dice.randint(-6, 6) for _ in range(2)]
            bound = dice.randint(-20, 20)
            neat, least, turned = neat_below(factors, bound)
            self.assertTrue(len(neat) == 0 or neat[-1] != 0)
            for values in itertools.product(range(-4, 5), repeat=2):
                self.assertIs((total(neat, values) < least) != turned, total(factors, values) < bound)

    def test_equal_comparisons_are_written_alike(self):
        self.assertEqual(neat_below((2, -4), 5), ((1, -2), 3, False))
        self.assertEqual(neat_below((-1, 2), -2), ((1, -2), 3, True))
        self.assertEqual(neat_below((0, 0), 5), ((), 5, False))

    def test_remainders_say_the_same(self):
        dice = random.Random(42)
        for _ in range(300):
            factors, modulus, residues = random_rest(dice, 2)
            neat, size, left, turned = neat_rest(factors, modulus, residues)
            self.assertTrue(2 * len(left) <= size or size == 1)
            for values in itertools.product(range(-5, 6), repeat=2):
                expected = total(factors, values) % modulus in residues
                self.assertIs((total(neat, values) % size in left) != turned, expected)

    def test_equal_remainders_are_written_alike(self):
        dice = random.Random(43)
        for _ in range(300):
            factors, modulus, residues = random_rest(dice, 2)
            unit = dice.choice([k for k in range(1, modulus + 1) if inverse_of(k, modulus) * k % modulus == 1 % modulus])
            again = [factor * unit + dice.randint(-3, 3) * modulus for factor in factors]
            moved = [residue * unit % modulus for residue in residues]
            self.assertEqual(neat_rest(again, modulus, sorted(moved)), neat_rest(factors, modulus, residues))
            others = [r for r in range(modulus) if r not in residues]
            self.assertEqual(neat_rest(factors, modulus, others)[:3], neat_rest(factors, modulus, residues)[:3])

    def test_smallest_modulus(self):
        self.assertEqual(neat_rest((1,), 12, [1, 4, 7, 10]), ((1,), 3, (1,), False))
        self.assertEqual(neat_rest((2,), 12, [2, 8]), ((1,), 3, (1,), False))
        self.assertEqual(neat_rest((2,), 4, [1, 3]), ((), 1, (0,), True))
        self.assertEqual(neat_rest((2,), 4, [0, 2, 3]), ((), 1, (0,), False))
        self.assertEqual(neat_rest((1,), 2, [1]), ((1,), 2, (0,), True))

    def test_primes(self):
        self.assertEqual([prime_divisors(n) for n in (1, 2, 12, 49, 97, 210)],
                         [[], [2], [2, 3], [7], [97], [2, 3, 5, 7]])


class Joined(unittest.TestCase):
    def setUp(self):
        self.forms = Forms()
        self.low = self.forms.below((1,), 5)
        self.lower = self.forms.below((1,), 2)
        self.even = self.forms.rest((0, 1), 2, (0,))

    def test_what_follows_is_left_out(self):
        self.assertEqual(all_of(self.forms, [self.low, self.lower]), self.lower)
        self.assertEqual(some_of(self.forms, [self.low, self.lower]), self.low)
        self.assertEqual(all_of(self.forms, [opposite(self.low), self.lower]), FALSE)
        self.assertEqual(some_of(self.forms, [self.low, opposite(self.lower)]), TRUE)
        self.assertEqual(all_of(self.forms, [self.even, opposite(self.even)]), FALSE)
        self.assertEqual(all_of(self.forms, []), TRUE)
        self.assertEqual(some_of(self.forms, []), FALSE)

    def test_choices_are_made_lighter(self):
        choice = some_of(self.forms, [self.low, self.even])
        self.assertEqual(all_of(self.forms, [choice, self.lower]), self.lower)
        self.assertEqual(all_of(self.forms, [choice, opposite(self.low)]),
                         all_of(self.forms, [self.even, opposite(self.low)]))
        self.assertEqual(all_of(self.forms, [choice, opposite(choice)]), FALSE)

    def test_remainders_are_met(self):
        forms = self.forms
        third, sixth = forms.rest((1,), 6, (1, 3)), forms.rest((1,), 6, (3, 5))
        self.assertEqual(all_of(forms, [third, sixth]), forms.rest((1,), 6, (3,)))
        self.assertEqual(some_of(forms, [third, sixth]), forms.rest((1,), 2, (1,)))
        self.assertEqual(all_of(forms, [third, opposite(sixth)]), forms.rest((1,), 6, (1,)))
        self.assertEqual(all_of(forms, [third, forms.rest((1,), 6, (0, 2))]), FALSE)

    def test_too_many_steps(self):
        with self.assertRaises(TooLarge):
            self.forms.spend(MOST_STEPS + 1)

    def test_deep_forms(self):
        form = self.low
        for k in range(500):
            # Neither of the two follows from the other one, so each step nests deeper.
            form = opposite(all_of(self.forms, [form, self.forms.rest((0, k + 1, 1), 997, (k,))]))
        self.assertGreater(self.forms.depth_of(form), 400)
        self.assertEqual(self.forms.numbers_of(Remover(self.forms).without(form, 1)), 6)


class Placed(unittest.TestCase):
    def test_a_point_for_a_number(self):
        dice = random.Random(44)
        for _ in range(200):
            lines = tuple(small(dice, 1, 1))
            forms = Forms()
            form = Reader(forms, lines, ()).read(2)
            point = Point((dice.randint(-3, 3),), dice.randint(-5, 5), dice.randint(1, 3))
            placed = Writer(forms).write(with_point(forms, parts_of(forms, form), 1, point))
            whole = Writer(forms).write(point.is_whole(forms))
            for x in range(-9, 10):
                top = total(point.factors, (x,)) + point.constant
                self.assertIs(says(whole, (x,)), top % point.divisor == 0)
                if top % point.divisor == 0:
                    self.assertIs(says(placed, (x,)), says(lines, (x, top // point.divisor)))

    def test_far_points(self):
        dice = random.Random(45)
        for _ in range(200):
            lines = tuple(small(dice, 1, 1))
            forms = Forms()
            form = Reader(forms, lines, ()).read(2)
            for sign in (1, -1):
                far = Writer(forms).write(with_point(forms, [form], 1, FarPoint(sign)))
                for x, y in itertools.product(range(-5, 6), range(12)):
                    self.assertIs(says(far, (x, y)), says(lines, (x, y + sign * 120)))


class Removed(unittest.TestCase):
    def test_each_way_to_remove_a_number(self):
        dice = random.Random(46)
        for _ in range(400):
            lines = tuple(small(dice, 1, 1)) if dice.random() < 0.5 else tuple(wide(dice))
            forms = Forms()
            form = Reader(forms, lines, ()).read(2)
            left = Remover(forms).without(form, 2)
            made = Writer(forms).write(left)
            holds = trial(lines + (("there", len(lines) - 1),), 1, [0, 130])
            for x in range(-9, 10):
                self.assertIs(says(made, (x,)), holds(x), (lines, x))

    def test_points_alone(self):
        dice = random.Random(47)
        for _ in range(200):
            lines = tuple(wide(dice))
            forms = Forms()
            form = Reader(forms, lines, ()).read(2)
            if forms.numbers_of(form) & 2 == 0:
                continue
            view = View(forms, [form], 1)
            found = []
            for point in view.points():
                tried = with_point(forms, [form], 1, point)
                tried = all_of(forms, [point.is_whole(forms), tried])
                found.append(Remover(forms).without(tried, 2))
            made = Writer(forms).write(some_of(forms, found))
            holds = trial(lines + (("there", len(lines) - 1),), 1, [0, 130])
            for x in range(-9, 10):
                self.assertIs(says(made, (x,)), holds(x), (lines, x))

    def test_groups(self):
        forms = Forms()
        parts = [forms.below(factors, 3) for factors in ((1,), (0, 1, 1), (0, 0, 1, 1), (0, 0, 0, 0, 1), (1, 0, 0, 1))]
        groups = groups_of(forms, parts, 30)
        self.assertEqual(sorted(sorted(group) for group in groups),
                         sorted([sorted([parts[0]]), sorted([parts[1], parts[2], parts[4]]), sorted([parts[3]])]))


def wide(dice):
    """Lines with larger factors of a sought number, which is bounded from both sides."""
    lines = [("below", (dice.randint(-2, 2), -dice.randint(1, 5)), dice.randint(0, 12)),
             ("below", (dice.randint(-2, 2), dice.randint(1, 5)), dice.randint(0, 12)), ("both", 0, 1)]
    for _ in range(dice.randint(0, 2)):
        modulus = dice.randint(2, 7)
        factors = (dice.randint(-3, 3), dice.randint(-3, 3))
        lines.append(dice.choice([("rest", factors, modulus, dice.randrange(modulus)), ("below", factors, 3)]))
        if dice.random() < 0.5:
            lines.append(("not", len(lines) - 1))
        lines.append(("both", len(lines) - 1, 2))
    return lines


class Shortened(unittest.TestCase):
    def test_forms_of_one_number_stay_the_same(self):
        dice = random.Random(48)
        for _ in range(200):
            forms = Forms()
            found = []
            for _ in range(dice.randint(2, 7)):
                low, high = dice.randint(-30, 30), dice.randint(-30, 30)
                modulus = dice.randint(1, 6)
                found.append(all_of(forms, [opposite(forms.below((1,), low)), forms.below((1,), high),
                                            forms.rest((1,), modulus, (dice.randrange(modulus),))]))
            form = some_of(forms, found)
            first = Writer(forms).write(form)
            second = Writer(forms).write(shortened(forms, form))
            self.assertLessEqual(len(second), 2 * len(first) + 4)
            for x in range(-100, 101):
                self.assertIs(says(first, (x,)), says(second, (x,)))

    def test_they_are_shorter(self):
        forms = Forms()
        found = [all_of(forms, [opposite(forms.below((1,), k)), forms.below((1,), k + 8)]) for k in range(0, 30, 3)]
        form = some_of(forms, found)
        self.assertEqual(shortened(forms, form),
                         all_of(forms, [opposite(forms.below((1,), 0)), forms.below((1,), 35)]))


class Strips(unittest.TestCase):
    def test_bits_and_rows(self):
        for row in itertools.product((True, False), repeat=5):
            bits = bits_of(row)
            self.assertEqual(row_of(bits, 5), row)
            for low in range(-7, 8):
                self.assertEqual(row_of(window(bits, 5, low, 12), 12), tuple(row[(low + k) % 5] for k in range(12)))
                again = anchored(bits, low, 5)
                self.assertEqual(row_of(window(again, 5, low, 5), 5), row)
            self.assertEqual(row_of(stretched(bits, 5, 13), 13), (row * 3)[:13])

    def test_shortest(self):
        for width in range(1, 13):
            for bits in range(0, 1 << width, 1 + (1 << width) // 60):
                found, size = shortest(bits, width)
                row = row_of(bits, width)
                periods = [p for p in range(1, width + 1) if width % p == 0 and row == row[:p] * (width // p)]
                self.assertEqual((row_of(found, size), size), (row[:periods[0]], periods[0]))

    def test_traces(self):
        dice = random.Random(49)
        for _ in range(200):
            lines = tuple(small(dice, 0, 1))
            for whole in (False, True):
                forms = Forms()
                form = Reader(forms, lines, ()).read(1)
                low = None
                for high, bits, width in Trace(forms, form, 0, whole).pieces():
                    start = (high if high is not None else 0) - 30 if low is None else low
                    for y in range(start, high if high is not None else start + 30):
                        self.assertIs(bits >> (y % width) & 1 == 1, says(lines, (y,)))
                    low = high

    def test_nearest_to_zero(self):
        dice = random.Random(50)
        for _ in range(500):
            pattern = random_pattern(dice)
            self.assertEqual(nearest_to_zero(pieces_of(pattern)), nearest(pattern, 0), pattern)
        self.assertIsNone(nearest_to_zero([(-10 ** 30, 0, 1), (None, 0, 5)]))
        # As near to both sides: the greater one.
        self.assertEqual(nearest_to_zero([(1 - 10 ** 30, 1, 1), (10 ** 30, 0, 1), (None, 1, 1)]), 10 ** 30)
        self.assertEqual(nearest_to_zero([(-10 ** 30, 1, 1), (10 ** 30 + 2, 0, 1), (None, 1, 1)]), -10 ** 30 - 1)


class Points(unittest.TestCase):
    def test_comparisons_of_points(self):
        dice = random.Random(51)
        forms = Forms()
        for _ in range(300):
            points = [Point((dice.randint(-3, 3),), dice.randint(-6, 6), dice.randint(1, 4)) for _ in range(2)]
            x = dice.randint(-9, 9)
            # The points as numbers with a common divisor.
            first, second = [(point.factors[0] * x + point.constant) * (12 // point.divisor) for point in points]
            less = with_point(forms, [is_less(forms, points[0], points[1])], 0, Point((), x, 1))
            equal = with_point(forms, [is_equal(forms, points[0], points[1])], 0, Point((), x, 1))
            self.assertEqual((less == TRUE, equal == TRUE), (first < second, first == second))

    def test_a_point_in_a_point(self):
        inner = Point((3,), 1, 2)
        # (4 * x1 + x0 + 5) / 3 with (3 * x0 + 1) / 2 for x1.
        both = put_in(Point((1, 4), 5, 3), 1, inner)
        self.assertEqual((both.factors, both.constant, both.divisor), ((7,), 7, 3))
        same = put_in(Point((1,), 5, 3), 1, inner)
        self.assertEqual((same.factors, same.constant, same.divisor), ((1,), 5, 3))
        self.assertEqual(number_point(2).factors, (0, 0, 1))

    def test_cases_of_a_sum_of_few_values(self):
        # The number itself is bounded by a remainder that takes long to repeat, but it has only two values.
        forms = Forms()
        rest = forms.rest((1,), 997, (5,))
        two = [opposite(forms.below((1,), 1000)), forms.below((1,), 1003)]
        cases = best_cases(forms, [all_of(forms, [rest] + two)], 0, "least")
        self.assertEqual([(case.form, case.point.constant) for case in cases], [(TRUE, 1002)])


if __name__ == "__main__":
    unittest.main()
