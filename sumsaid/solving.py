"""Cases that give the least or the greatest one of all numbers with which forms hold."""

from sumsaid.bounds import View, points_at
from sumsaid.cases import Case, neat_point
from sumsaid.errors import TooLarge
from sumsaid.forms import FALSE
from sumsaid.joining import all_of, choices_of, parts_of, some_of
from sumsaid.placing import FarPoint, with_point
from sumsaid.removal import Remover


def best_cases(forms, choices, number, kind):
    """The cases of the least, or the greatest, number with which one of the choices holds, where there is one.

    Each case that holds gives a number with which one of them does.
    """
    points = {}
    held = {}
    for choice in choices:
        parts = parts_of(forms, choice)
        others = [part for part in parts if not is_about(forms, part, number)]
        view = View(forms, [part for part in parts if is_about(forms, part, number)], number)
        for point in candidates(view, kind):
            form = point.is_whole(forms)
            if form != FALSE:
                form = all_of(forms, [form, with_point(forms, view.parts, number, point)] + others)
            if form != FALSE:
                point = neat_point(point.factors, point.constant, point.divisor)
                key = (point.factors, point.constant, point.divisor)
                points[key] = point
                held.setdefault(key, []).append(form)
    return [Case(some_of(forms, held[key]), points[key]) for key in points]


def is_about(forms, part, number):
    """Whether a form is about a number."""
    return forms.numbers_of(part) >> number & 1 == 1


def candidates(view, kind):
    """Points among which is the least, or the greatest, number with which the parts of a view hold."""
    bounds = view.lowers if kind == "least" else view.uppers
    many = view.repeat * points_at(bounds)
    span = view.narrowest()
    if not view.forms.can_spend(many if span is None else min(many, span[1])):
        raise TooLarge("the function has too many cases")
    if span is not None and span[1] < many:
        bound, many = span
        return [bound.point_at(view.number, further) for further in range(many)]
    found = []
    for bound in bounds:
        for further in range(view.repeat * abs(bound.times)):
            found.append(bound.point_at(view.number, further))
    return found


def limited(forms, form, limit):
    """Forms of which one holds where a form and a limit do."""
    return [all_of(forms, [choice, limit]) for choice in choices_of(forms, form)]


def goes_on(forms, form, number, kind):
    """The form of: the form holds with numbers below (kind least) or above every number."""
    far = FarPoint(-1 if kind == "least" else 1)
    return Remover(forms).without(with_point(forms, [form], number, far), 1 << number)
