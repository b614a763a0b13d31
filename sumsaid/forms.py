"""Plain forms: what sayings without `there` say, each form kept once under a number.

A form is an integer: 2 * k for the node k, 2 * k + 1 for its opposite. The nodes are
("true",), ("below", factors, bound), ("rest", factors, modulus, residues) and ("all", forms), the last
for forms that hold together. The forms in a node are less than its own ones.
"""

from sumsaid.atoms import neat_below, neat_rest
from sumsaid.errors import TooLarge

TRUE = 0
FALSE = 1
# Beyond this many steps a form counts as too large to be made; they take a few seconds.
MOST_STEPS = 2000000


class Forms:
    """A store of forms, with the count of the steps that were taken to make them."""

    def __init__(self):
        self.nodes = [("true",)]
        # For each node the numbers that it is about, as the sum of 2 to the power of their indices.
        self.used = [0]
        self.depths = [0]
        self.places = {}
        self.neat = {}
        self.steps = 0

    def spend(self, steps):
        """Counts steps; raises TooLarge if there are too many."""
        self.steps += steps
        if self.steps > MOST_STEPS:
            raise TooLarge("what has to be made takes too many steps")

    def can_spend(self, steps):
        """Whether so many further steps can be taken."""
        return self.steps + steps <= MOST_STEPS

    def node_of(self, form):
        """The node of a form or of its opposite."""
        return self.nodes[form >> 1]

    def numbers_of(self, form):
        """The numbers that a form is about, as a sum of powers of 2."""
        return self.used[form >> 1]

    def depth_of(self, form):
        """How deep forms are nested in a form."""
        return self.depths[form >> 1]

    def kept(self, node, numbers, depth):
        """The form of a node that is written in its one way."""
        if node not in self.places:
            self.places[node] = 2 * len(self.nodes)
            self.nodes.append(node)
            self.used.append(numbers)
            self.depths.append(depth)
        return self.places[node]

    def kept_below(self, factors, bound):
        """The form of a comparison that is written in its one way."""
        return self.kept(("below", factors, bound), numbers_in(factors), 0)

    def kept_rest(self, factors, modulus, residues):
        """The form of remainders that are written in their one way."""
        return self.kept(("rest", factors, modulus, residues), numbers_in(factors), 0)

    def kept_all(self, parts):
        """The form of parts that hold together, which are in order and cannot be simplified."""
        if len(parts) == 0:
            return TRUE
        if len(parts) == 1:
            return parts[0]
        numbers = depth = 0
        for part in parts:
            numbers |= self.used[part >> 1]
            depth = max(depth, self.depths[part >> 1] + 1)
        return self.kept(("all", tuple(parts)), numbers, depth)

    def below(self, factors, bound):
        """The form of: the sum with these factors is less than the bound."""
        self.spend(1)
        factors, bound, turned = neat_below(factors, bound)
        if len(factors) == 0:
            return TRUE if 0 < bound else FALSE
        return self.kept_below(factors, bound) ^ int(turned)

    def rest(self, factors, modulus, residues):
        """The form of: the sum with these factors leaves one of the residues."""
        self.spend(1)
        key = (tuple(factors), modulus, tuple(residues))
        if key not in self.neat:
            self.neat[key] = self.new_rest(factors, modulus, residues)
        return self.neat[key]

    def new_rest(self, factors, modulus, residues):
        """The form of remainders that were not asked for before."""
        self.spend(5 + len(residues))
        factors, modulus, residues, turned = neat_rest(factors, modulus, residues)
        if modulus == 1:
            return FALSE if turned else TRUE
        return self.kept_rest(factors, modulus, residues) ^ int(turned)


def numbers_in(factors):
    """The numbers with a factor that is not 0, as a sum of powers of 2."""
    numbers = 0
    for k, factor in enumerate(factors):
        if factor != 0:
            numbers |= 1 << k
    return numbers
