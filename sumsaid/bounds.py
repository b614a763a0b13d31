"""What the parts of a form say of one number: its bounds, and after how many numbers remainders repeat."""

from math import gcd, lcm

from sumsaid.atoms import combined, factor_at, inverse_of, without_factor
from sumsaid.joining import opposite
from sumsaid.placing import FarPoint, Point


class Bound:
    """A comparison that bounds a number: the sum with the factors is at least `level`.

    `times` is the factor of the number: positive if the number is bounded from below.
    """

    def __init__(self, factors, level, times):
        self.factors = factors
        self.level = level
        self.times = times

    def point_at(self, number, further):
        """Where the sum is `level + further`."""
        sign = 1 if self.times > 0 else -1
        factors = combined(without_factor(self.factors, number), -sign, (), 0)
        return Point(factors, sign * (self.level + further), abs(self.times))


def bound_of(node, sign, number):
    """The bound that a comparison, or its opposite (sign 1), sets to a number."""
    _, factors, bound = node
    times = factor_at(factors, number)
    if sign == 1:
        return Bound(factors, bound, times)
    return Bound(combined(factors, -1, (), 0), 1 - bound, -times)


class View:
    """The bounds of a number in parts that hold together, and after how many numbers their remainders repeat."""

    def __init__(self, forms, parts, number):
        self.forms = forms
        self.parts = parts
        self.number = number
        self.lowers = []
        self.uppers = []
        self.repeat = 1
        self.size = 0
        self.look(1 << number)

    def look(self, mask):
        """Looks at all comparisons and remainders, each as it is said or as its opposite is."""
        seen = {}
        waiting = list(self.parts)
        while len(waiting) > 0:
            part = waiting.pop()
            if part in seen or self.forms.numbers_of(part) & mask == 0:
                continue
            seen[part] = True
            node = self.forms.node_of(part)
            if node[0] == "all":
                waiting.extend([inner ^ (part & 1) for inner in node[1]])
            elif node[0] == "rest":
                factor = factor_at(node[1], self.number)
                self.repeat = lcm(self.repeat, node[2] // gcd(node[2], factor))
            else:
                bound = bound_of(node, part & 1, self.number)
                if bound.times > 0:
                    self.lowers.append(bound)
                else:
                    self.uppers.append(bound)
        self.size = len(seen)
        self.forms.spend(self.size)

    def is_open(self):
        """Whether the number has no bounds, or only bounds to one side."""
        return len(self.lowers) == 0 or len(self.uppers) == 0

    def has_shadow(self):
        """Whether comparing each lower bound with each upper one tells whether there is a number between them."""
        if any([self.forms.node_of(part)[0] != "below" for part in self.parts]):
            return False
        units = [all([abs(bound.times) == 1 for bound in side]) for side in (self.lowers, self.uppers)]
        return units[0] or units[1]

    def shadow(self):
        """The forms that say of each lower bound that it is not above each upper one."""
        found = []
        for low in self.lowers:
            for high in self.uppers:
                factors = combined(low.factors, -high.times, high.factors, low.times)
                least = -high.times * low.level + low.times * high.level
                found.append(opposite(self.forms.below(factors, least)))
        return found

    def side(self):
        """The bounds of the side that gives fewer points to be tried."""
        if points_at(self.lowers) <= points_at(self.uppers):
            return self.lowers
        return self.uppers

    def many_points(self):
        """How many points `points` gives at most."""
        return self.repeat * points_at(self.side()) + (self.repeat if self.is_free() else 1)

    def is_free(self):
        """Whether the number has no bounds at all."""
        return len(self.lowers) == 0 and len(self.uppers) == 0

    def points(self):
        """Points such that the parts hold with one of them if they hold with any number."""
        if self.is_free():
            return [Point((), k, 1) for k in range(self.repeat)]
        bounds = self.side()
        points = [FarPoint(-1 if points_at(self.lowers) <= points_at(self.uppers) else 1)]
        known = {}
        for bound in bounds:
            for further in range(self.repeat * abs(bound.times)):
                point = bound.point_at(self.number, further)
                key = (point.factors, point.constant, point.divisor)
                if key not in known:
                    known[key] = True
                    points.append(point)
        return points

    def narrowest(self):
        """The bound and the number of values of the sum that has the fewest values, or None."""
        least = {}
        found = None
        for part in self.parts:
            node = self.forms.node_of(part)
            if node[0] != "below":
                continue
            bound = bound_of(node, part & 1, self.number)
            opposed = combined(bound.factors, -1, (), 0)
            if opposed in least:
                many = 1 - least[opposed] - bound.level
                if found is None or many < found[1]:
                    found = (bound, many)
            least[bound.factors] = bound.level
        return found

    def unit(self):
        """A point in which the number stands for another one, so that one of the parts always holds, or None."""
        for part in self.parts:
            node = self.forms.node_of(part)
            if node[0] == "rest" and part & 1 == 0 and len(node[3]) == 1:
                _, factors, modulus, residues = node
                times = factor_at(factors, self.number)
                if gcd(times, modulus) == 1:
                    return unit_point(factors, modulus, residues[0], self.number)
        return None


def points_at(bounds):
    """How many points there are at bounds, for each number after which remainders repeat."""
    return sum([abs(bound.times) for bound in bounds])


def unit_point(factors, modulus, residue, number):
    """The number as a multiple of the modulus and what leaves the residue: then it stands for the multiple."""
    inverse = inverse_of(factor_at(factors, number), modulus)
    others = combined(without_factor(factors, number), -inverse, (), 0)
    shift = tuple([0] * number + [modulus])
    return Point(combined([factor % modulus for factor in others], 1, shift, 1), inverse * residue % modulus, 1)
