"""Functions that are written from sayings: their making, their values, and what they say of one another."""

from sumsaid.cases import (
    Case, any_holds, are_chosen, are_missed, is_equal, is_less, is_unbeaten, is_worth, number_point, placed_cases,
    read_cases, sum_point, write_cases,
)
from sumsaid.forms import FALSE, Forms
from sumsaid.joining import all_of, choices_of, opposite, some_of
from sumsaid.placing import Point, with_point
from sumsaid.reading import Reader, Writer
from sumsaid.removal import Remover
from sumsaid.sayings import says_plainly, worth
from sumsaid.solving import best_cases, goes_on, limited
from sumsaid.strips import nearest_to_zero
from sumsaid.tracing import Trace


def least_from(saying, count, floor):
    """The function of the least solution that is not below the floor."""
    forms = Forms()
    return write_cases(forms, "least", cases_from(forms, saying, count, floor))


def cases_from(forms, saying, count, floor):
    """The cases of the least solution that is not below the floor."""
    form = Reader(forms, saying, ()).read(count + 1)
    limit = opposite(is_less(forms, number_point(count), sum_point(floor, count)))
    return best_cases(forms, limited(forms, form, limit), count, "least")


def greatest_to(saying, count, roof):
    """The function of the greatest solution that is not above the roof."""
    forms = Forms()
    form = Reader(forms, saying, ()).read(count + 1)
    limit = opposite(is_less(forms, sum_point(roof, count), number_point(count)))
    return write_cases(forms, "greatest", best_cases(forms, limited(forms, form, limit), count, "greatest"))


def lowest(saying, count):
    """A plain saying, whether solutions go on far below, and the function of the least solution."""
    forms = Forms()
    return extreme(forms, Reader(forms, saying, ()).read(count + 1), count, "least")


def highest(saying, count):
    """A plain saying, whether solutions go on far above, and the function of the greatest solution."""
    forms = Forms()
    return extreme(forms, Reader(forms, saying, ()).read(count + 1), count, "greatest")


def best_sum(saying, count, sought, goal):
    """What `highest` returns of the values that a sum takes where a saying holds."""
    forms = Forms()
    form = Reader(forms, saying, ()).read(count + sought)
    many = count + sought
    reached = all_of(forms, [form, is_equal(forms, sum_point(goal, many), number_point(many))])
    form = Remover(forms).without(reached, (1 << many) - (1 << count))
    # The number of the sum comes behind the given ones only now, as the sought ones stood there before.
    return extreme(forms, with_point(forms, [form], many, number_point(count)), count, "greatest")


def extreme(forms, form, number, kind):
    """A plain saying, whether a form goes on far away, and the function of its least or greatest number."""
    far = Writer(forms).write(goes_on(forms, form, number, kind))
    return far, write_cases(forms, kind, best_cases(forms, choices_of(forms, form), number, kind))


def value(function, values):
    """The value of a function, or None."""
    kind, cases = function
    found = []
    for condition, factors, constant, divisor in cases:
        if says_plainly(condition, values):
            found.append((worth(factors, values) + constant) // divisor)
    if len(found) == 0:
        return None
    return min(found) if kind == "least" else max(found)


def graph(function, count):
    """A plain saying: the next number is the value of the function."""
    forms = Forms()
    cases = read_cases(forms, function, count)
    return Writer(forms).write(is_worth(forms, function[0], cases, number_point(count)))


def domain(function, count):
    """A plain saying: the function has a value."""
    forms = Forms()
    return Writer(forms).write(any_holds(forms, read_cases(forms, function, count)))


def restricted(function, saying, count):
    """The function that has its values only where a saying holds."""
    forms = Forms()
    limit = Reader(forms, saying, ()).read(count)
    cases = []
    for case in read_cases(forms, function, count):
        form = all_of(forms, [case.form, limit])
        if form != FALSE:
            cases.append(Case(form, case.point))
    return write_cases(forms, function[0], cases)


def either(first, second):
    """The function whose value is the better one of the values of two functions of one kind."""
    return first[0], first[1] + second[1]


def inverse(function, floor):
    """The function of the least number, not below the floor, for which a function has a value."""
    forms = Forms()
    # The value is given here, so it comes first, and the number of the function behind it.
    cases = placed_cases(forms, read_cases(forms, function, 1), 0, number_point(1))
    limit = opposite(is_less(forms, number_point(1), sum_point(floor, 1)))
    choices = []
    for case in are_chosen(forms, function[0], cases):
        choices.append(all_of(forms, [case.form, is_equal(forms, case.point, number_point(0)), limit]))
    return write_cases(forms, "least", best_cases(forms, choices, 1, "least"))


def composed(first, second, count):
    """The function whose value is that of the second one, where its last number is the value of the first one."""
    forms = Forms()
    outer = read_cases(forms, second, count + 1)
    cases = []
    for chosen in are_chosen(forms, first[0], read_cases(forms, first, count)):
        inner = placed_cases(forms, outer, count, chosen.point)
        for case in inner:
            parts = [chosen.form, case.form]
            if second[0] != "least":
                parts.append(is_unbeaten(forms, second[0], inner, case.point))
            form = all_of(forms, parts)
            if form != FALSE:
                cases.append(Case(form, case.point))
    return write_cases(forms, "least", cases)


def some_values(saying, count):
    """The values of the given numbers nearest to 0, one after the other, for which a saying holds, or None."""
    forms = Forms()
    return values_near(forms, Reader(forms, saying, ()).read(count), count)


def values_near(forms, form, count):
    """The values of `some_values` for a form."""
    if count == 0:
        return None if form == FALSE else ()
    remover = Remover(forms)
    found = []
    for number in range(count):
        left = remover.without(form, (1 << count) - (2 << number))
        near = nearest_to_zero(Trace(forms, left, number).pieces())
        if near is None:
            return None
        found.append(near)
        form = with_point(forms, [form], number, Point((), near, 1))
    return tuple(found)


def parting(first, second, count):
    """The values of the given numbers nearest to 0 for which two functions differ, or None."""
    forms = Forms()
    cases = read_cases(forms, first, count)
    others = read_cases(forms, second, count)
    return values_near(forms, differing(forms, first[0], cases, second[0], others), count)


def differing(forms, kind, cases, other_kind, others):
    """The form of: the functions with these cases have different values, or only one of them has one."""
    if kind == other_kind:
        return some_of(forms, [are_missed(forms, kind, cases, others), are_missed(forms, kind, others, cases)])
    found = [all_of(forms, [any_holds(forms, others), opposite(any_holds(forms, cases))])]
    for case in are_chosen(forms, kind, cases):
        found.append(all_of(forms, [case.form, opposite(is_worth(forms, other_kind, others, case.point))]))
    return some_of(forms, found)


def judge(saying, count, floor, function):
    """Whether a function is right for all values, and each of its cases that holds gives a solution."""
    if function[0] != "least":
        return False
    forms = Forms()
    cases = read_cases(forms, function, count)
    form = Reader(forms, saying, ()).read(count + 1)
    limit = opposite(is_less(forms, number_point(count), sum_point(floor, count)))
    wrong = []
    for case in cases:
        right = all_of(forms, [case.point.is_whole(forms), with_point(forms, [form, limit], count, case.point)])
        wrong.append(all_of(forms, [case.form, opposite(right)]))
    wrong.append(are_missed(forms, "least", cases_from(forms, saying, count, floor), cases))
    return Remover(forms).without(some_of(forms, wrong), (1 << count) - 1) == FALSE
