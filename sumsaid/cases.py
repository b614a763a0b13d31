"""Cases of functions as forms: where each one holds, and the point that is its value there."""

from math import gcd

from sumsaid.atoms import combined, common_divisor, factor_at, trimmed, without_factor
from sumsaid.errors import TooLarge
from sumsaid.forms import FALSE
from sumsaid.joining import all_of, opposite, some_of
from sumsaid.placing import Point, with_point
from sumsaid.reading import MOST_LINES, Reader, Writer


class Case:
    """A form that tells where the case holds, and a point, which is an integer there."""

    def __init__(self, form, point):
        self.form = form
        self.point = point


def neat_point(factors, constant, divisor):
    """The point of a sum and a divisor, without common divisors."""
    common = common_divisor(factors, gcd(constant, divisor))
    return Point(trimmed([factor // common for factor in factors]), constant // common, divisor // common)


def number_point(number):
    """The point that is a number itself."""
    return Point(tuple([0] * number + [1]), 0, 1)


def sum_point(total, count):
    """The point that is the value of a sum of so many numbers."""
    return Point(trimmed(total[0][:count]), total[1], 1)


def put_in(point, number, inner):
    """A point in which another point stands for a number."""
    times = factor_at(point.factors, number)
    factors = combined(without_factor(point.factors, number), inner.divisor, inner.factors, times)
    return neat_point(factors, point.constant * inner.divisor + times * inner.constant, point.divisor * inner.divisor)


def is_less(forms, first, second):
    """The form of: the first point is less than the second one."""
    factors = combined(first.factors, second.divisor, second.factors, -first.divisor)
    return forms.below(factors, first.divisor * second.constant - second.divisor * first.constant)


def is_equal(forms, first, second):
    """The form of: two points are the same number."""
    return all_of(forms, [opposite(is_less(forms, first, second)), opposite(is_less(forms, second, first))])


def is_better(forms, kind, first, second):
    """The form of: the first point goes before the second one as the value of a function of the kind."""
    return is_less(forms, first, second) if kind == "least" else is_less(forms, second, first)


def read_cases(forms, function, count):
    """The cases of a function of so many numbers, without those that are seen never to hold."""
    cases = []
    for condition, factors, constant, divisor in function[1]:
        form = Reader(forms, condition, ()).read(count)
        if form != FALSE:
            cases.append(Case(form, Point(trimmed(factors[:count]), constant, divisor)))
    return cases


def write_cases(forms, kind, cases):
    """The function of a kind with these cases."""
    found = []
    many = 0
    for case in cases:
        condition = Writer(forms).write(case.form)
        many += len(condition)
        if many > MOST_LINES:
            raise TooLarge("the cases of the function have too many lines")
        found.append((condition, case.point.factors, case.point.constant, case.point.divisor))
    return kind, tuple(found)


def placed_cases(forms, cases, number, point):
    """The cases with a point for a number."""
    found = []
    for case in cases:
        found.append(Case(with_point(forms, [case.form], number, point), put_in(case.point, number, point)))
    return found


def any_holds(forms, cases):
    """The form of: at least one of the cases holds."""
    return some_of(forms, [case.form for case in cases])


def is_unbeaten(forms, kind, cases, point):
    """The form of: no case that holds has a better value than the point."""
    return all_of(forms, [opposite(all_of(forms, [case.form, is_better(forms, kind, case.point, point)]))
                          for case in cases])


def is_matched(forms, kind, cases, point):
    """The form of: some case that holds has a value that is as good as the point."""
    found = []
    for case in cases:
        found.append(all_of(forms, [case.form, opposite(is_better(forms, kind, point, case.point))]))
    return some_of(forms, found)


def is_worth(forms, kind, cases, point):
    """The form of: the point is the value of the function with these cases."""
    found = []
    for case in cases:
        found.append(all_of(forms, [case.form, is_equal(forms, case.point, point)]))
    return all_of(forms, [some_of(forms, found), is_unbeaten(forms, kind, cases, point)])


def are_chosen(forms, kind, cases):
    """The cases, each only where its value is that of the function."""
    found = []
    for case in cases:
        form = all_of(forms, [case.form, is_unbeaten(forms, kind, cases, case.point)])
        if form != FALSE:
            found.append(Case(form, case.point))
    return found


def are_missed(forms, kind, cases, others):
    """The form of: one of the cases holds with a better value than all of the other ones that hold."""
    found = []
    for case in cases:
        found.append(all_of(forms, [case.form, opposite(is_matched(forms, kind, others, case.point))]))
    return some_of(forms, found)
