"""Forms that say whether there are numbers with which a form holds."""

from sumsaid.bounds import View
from sumsaid.errors import TooLarge
from sumsaid.forms import FALSE, TRUE
from sumsaid.joining import all_of, choices_of, is_choice, parts_of, some_of
from sumsaid.placing import with_point
from sumsaid.shortening import shortened
from sumsaid.tracing import Trace

# What is nested deeper is not taken apart: that is done by calls which are as deep as the forms.
MOST_DEEP = 20


class Plan:
    """A way to remove a number: its points or those of a sum of few values, another number, or its shadow.

    `tries` tells how many points have to be tried, as far as the plans for several numbers are compared.
    """

    def __init__(self, tries, view, way):
        self.tries = tries
        self.view = view
        self.way = way

    def many(self):
        """How many points there are."""
        return 1 if self.way == "unit" else self.tries

    def points(self):
        """The points to be tried for the number."""
        if self.way == "span":
            bound, many = self.view.narrowest()
            return [bound.point_at(self.view.number, further) for further in range(many)]
        if self.way == "unit":
            return [self.view.unit()]
        return self.view.points()


def plan_for(view):
    """The cheapest way to remove the number of a view."""
    if view.has_shadow():
        return Plan(1, view, "shadow")
    plan = Plan(view.many_points(), view, "points")
    span = view.narrowest()
    if span is not None and span[1] < plan.tries:
        return Plan(span[1], view, "span")
    if view.repeat > 1 and view.unit() is not None:
        # Where the number has bounds to both sides, as many points are to be tried after this as before it.
        return Plan(1 if view.is_open() else plan.tries, view, "unit")
    return plan


def bits_in(mask):
    """The indices of the numbers that a sum of powers of 2 stands for."""
    return [k for k in range(mask.bit_length()) if mask >> k & 1 == 1]


def groups_of(forms, parts, numbers):
    """The parts in groups, such that no two groups are about the same one of the numbers."""
    forms.spend(len(parts))
    masks = []
    for mask in sorted({forms.numbers_of(part) & numbers for part in parts}):
        apart = [other for other in masks if other & mask == 0]
        for other in masks:
            mask |= other if other & mask != 0 else 0
        masks = apart + [mask]
    groups = []
    for mask in masks:
        groups.append([part for part in parts if is_about(forms.numbers_of(part) & numbers, mask)])
    return groups


def is_about(numbers, mask):
    """Whether the numbers of a part belong to the mask of a group, or to that of the parts about none."""
    return numbers & mask != 0 or numbers == mask


class Remover:
    """Removes numbers from forms, and keeps what was worked out."""

    def __init__(self, forms):
        self.forms = forms
        self.answers = {}

    def without(self, form, numbers):
        """The form that holds where there are numbers, of these indices (a sum of powers of 2), with which one does."""
        numbers &= self.forms.numbers_of(form)
        if numbers == 0:
            return form
        key = (form, numbers)
        if key not in self.answers:
            self.answers[key] = shortened(self.forms, self.worked_out(form, numbers))
        return self.answers[key]

    def worked_out(self, form, numbers):
        """What `without` gives for a form that is about all of the numbers."""
        self.forms.spend(1)
        parts = parts_of(self.forms, form)
        if self.forms.depth_of(form) <= MOST_DEEP:
            if is_choice(self.forms, form):
                return self.some_without(choices_of(self.forms, form), numbers)
            groups = groups_of(self.forms, parts, numbers)
            if len(groups) > 1:
                return self.all_without(groups, numbers)
        if self.forms.numbers_of(form) == numbers and numbers & (numbers - 1) == 0:
            trace = Trace(self.forms, form, numbers.bit_length() - 1)
            if trace.is_feasible():
                return TRUE if trace.bits() != 0 else FALSE
        return self.by_plan(self.best_plan(parts, numbers), parts, numbers)

    def some_without(self, choices, numbers):
        """The form that holds where one of the forms does with some numbers."""
        found = []
        for choice in choices:
            left = self.without(choice, numbers)
            if left == TRUE:
                return TRUE
            found.append(left)
        return some_of(self.forms, found)

    def all_without(self, groups, numbers):
        """The form that holds where each group does with some numbers of its own."""
        found = []
        for parts in groups:
            left = self.without(all_of(self.forms, parts), numbers)
            if left == FALSE:
                return FALSE
            found.append(left)
        return all_of(self.forms, found)

    def best_plan(self, parts, numbers):
        """The cheapest way to remove one of the numbers."""
        best = None
        for number in bits_in(numbers)[::-1]:
            mask = 1 << number
            view = View(self.forms, [part for part in parts if self.forms.numbers_of(part) & mask != 0], number)
            plan = plan_for(view)
            if best is None or plan.tries < best.tries:
                best = plan
        return best

    def by_plan(self, plan, parts, numbers):
        """The form without the numbers, one of which is removed as the plan says."""
        view = plan.view
        mask = 1 << view.number
        others = [part for part in parts if self.forms.numbers_of(part) & mask == 0]
        if plan.way == "shadow":
            return self.without(all_of(self.forms, view.shadow() + others), numbers)
        if not self.forms.can_spend(plan.many()):
            raise TooLarge("too many points have to be tried")
        found = []
        for point in plan.points():
            branch = point.is_whole(self.forms)
            if branch != FALSE:
                branch = all_of(self.forms, [branch, with_point(self.forms, view.parts, view.number, point)] + others)
            left = self.without(branch, numbers)
            if left == TRUE:
                return TRUE
            found.append(left)
        return some_of(self.forms, found)
