"""Forms in which a number is replaced: by a sum with a divisor, or by what is far below or far above."""

from sumsaid.atoms import combined, factor_at, without_factor
from sumsaid.forms import FALSE, TRUE
from sumsaid.joining import all_of


class Point:
    """(sum with factors + constant) / divisor, the divisor at least 1."""

    def __init__(self, factors, constant, divisor):
        self.factors = factors
        self.constant = constant
        self.divisor = divisor

    def is_whole(self, forms):
        """The form of: the sum can be divided without a remainder."""
        return forms.rest(self.factors, self.divisor, (-self.constant % self.divisor,))

    def placed(self, forms, node, number):
        """The form of a comparison or of remainders with the point for the number."""
        times = factor_at(node[1], number)
        factors = combined(without_factor(node[1], number), self.divisor, self.factors, times)
        shift = times * self.constant
        if node[0] == "below":
            return forms.below(factors, node[2] * self.divisor - shift)
        modulus = node[2] * self.divisor
        residues = sorted([(residue * self.divisor - shift) % modulus for residue in node[3]])
        return forms.rest(factors, modulus, residues)


class FarPoint:
    """What is far above (sign 1) or far below (sign -1) in comparisons; remainders stay as they are."""

    def __init__(self, sign):
        self.sign = sign

    def is_whole(self, forms):
        """The form of: the point is an integer."""
        return forms.rest((), 1, (0,))

    def placed(self, forms, node, number):
        """The form of a comparison or of remainders with the point for the number."""
        if node[0] == "below":
            return TRUE if factor_at(node[1], number) * self.sign < 0 else FALSE
        return forms.rest(node[1], node[2], node[3])


def places_in(forms, parts, numbers):
    """The places of the nodes in the parts that are about some of the numbers (a sum of powers of 2, or -1 for all).

    They are ascending: what is in a node comes before it.
    """
    found = {}
    waiting = [part >> 1 for part in parts]
    while len(waiting) > 0:
        place = waiting.pop()
        if place in found or forms.used[place] & numbers == 0:
            continue
        forms.spend(1)
        found[place] = True
        node = forms.nodes[place]
        if node[0] == "all":
            waiting.extend([part >> 1 for part in node[1]])
    return sorted(found)


def with_point(forms, parts, number, point):
    """The form of the parts holding together, with a point for the number."""
    new = {}
    for place in places_in(forms, parts, 1 << number):
        node = forms.nodes[place]
        if node[0] == "all":
            new[place] = all_of(forms, [replaced(new, part) for part in node[1]])
        else:
            new[place] = point.placed(forms, node, number)
    return all_of(forms, [replaced(new, part) for part in parts])


def replaced(new, form):
    """The form that stands for a form, by the table of the nodes that have a new one."""
    return new.get(form >> 1, form & -2) ^ (form & 1)
