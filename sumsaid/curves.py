"""Functions of one number, looked at number by number where their cases change and line by line elsewhere."""

from math import gcd, lcm

from sumsaid.atoms import factor_at
from sumsaid.cases import read_cases
from sumsaid.errors import TooLarge
from sumsaid.strips import LONGEST
from sumsaid.tracing import Trace


class Curve:
    """The values of a function of one number.

    Between two of the cuts, numbers that are `width` apart have values on one line, or none.
    """

    def __init__(self, forms, function):
        self.forms = forms
        self.kind = function[0]
        self.cases = read_cases(forms, function, 1)
        self.traced = []
        self.width = 1
        cuts = {}
        for case in self.cases:
            trace = Trace(forms, case.form, 0)
            self.traced.append(trace.pieces())
            self.width = lcm(self.width, trace.width)
            for cut in trace.cuts:
                cuts[cut] = True
        if self.width > LONGEST:
            raise TooLarge("the cases of the function repeat only after too many numbers")
        for cut in self.crossings():
            cuts[cut] = True
        self.cuts = sorted(cuts)

    def crossings(self):
        """The numbers from which on two sums that were in one order are in the other one."""
        sums = sorted({total_of(case.point) for case in self.cases})
        self.forms.spend(len(sums) * len(sums))
        found = []
        for factor, constant, divisor in sums:
            for other_factor, other, by in sums:
                steeper = factor * by - other_factor * divisor
                if steeper > 0:
                    found.append((other * divisor - constant * by) // steeper + 1)
        return found

    def worth(self, x):
        """The value at a number, or None."""
        self.forms.spend(1 + len(self.cases))
        best = None
        for case, pieces in zip(self.cases, self.traced):
            if is_there(pieces, x):
                factor, constant, divisor = total_of(case.point)
                found = (factor * x + constant) // divisor
                if best is None or (found < best if self.kind == "least" else found > best):
                    best = found
        return best

    def far_lines(self, sign):
        """The lines far above (sign 1) or far below (sign -1), for each remainder by the width."""
        start = 0
        if len(self.cuts) > 0:
            start = self.cuts[-1] if sign > 0 else self.cuts[0] - 2 * self.width
        lines = [None] * self.width
        for x in range(start, start + self.width):
            lines[x % self.width] = line_through(x, self.worth(x), x + self.width, self.worth(x + self.width))
        return shortest_row(lines)

    def first_other(self, lines):
        """The least number whose value is not that of the lines far below, or None."""
        for k, cut in enumerate(self.cuts):
            # Two lines that agree for two numbers are the same one.
            end = cut + 2 * self.width
            if k + 1 < len(self.cuts):
                end = min(end, self.cuts[k + 1])
            for x in range(cut, end):
                if self.worth(x) != worth_on(lines[x % len(lines)], x):
                    return x
        return None

    def last_other(self, lines):
        """The greatest number whose value is not that of the lines far above, or None."""
        for k in range(len(self.cuts) - 1, -1, -1):
            start = self.cuts[k] - 2 * self.width
            if k > 0:
                start = max(start, self.cuts[k - 1])
            for x in range(self.cuts[k] - 1, start - 1, -1):
                if self.worth(x) != worth_on(lines[x % len(lines)], x):
                    return x
        return None


def total_of(point):
    """The factor of the one number there is, the constant and the divisor of a point."""
    return factor_at(point.factors, 0), point.constant, point.divisor


def is_there(pieces, x):
    """Whether a number is in pieces."""
    for high, bits, width in pieces:
        if high is None or x < high:
            return bits >> x % width & 1 == 1
    return False


def line_through(x, y, other_x, other_y):
    """The line through two points, in lowest terms; None where there are no values."""
    if y is None or other_y is None:
        return None
    run = other_x - x
    rise = other_y - y
    common = gcd(rise, run)
    # What the line has at 0, as so many parts of the run.
    rest = y * run - rise * x
    further = gcd(rest, run)
    return rise // common, run // common, rest // further, run // further


def worth_on(line, x):
    """The value of a line at a number, or None."""
    if line is None:
        return None
    a, b, c, d = line
    return (a * d * x + c * b) // (b * d)


def shortest_row(row):
    """The shortest tuple that repeats as a list does."""
    for width in range(1, len(row)):
        if len(row) % width == 0 and all([item == row[k % width] for k, item in enumerate(row)]):
            return tuple(row[:width])
    return tuple(row)
