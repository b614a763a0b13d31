"""The solutions of forms that are about one number alone."""

from math import lcm

from sumsaid.errors import TooLarge
from sumsaid.placing import places_in
from sumsaid.strips import LONGEST, anchored, window

# The bits that are worked on at once, over all stretches of numbers.
MOST_BITS = 4000000


class Trace:
    """The stretches of numbers on which comparisons do not change, as far as remainders take to repeat.

    All bits stand side by side: those of the first stretch, which ends far below, come first.
    """

    def __init__(self, forms, form, number, whole=False):
        """With `whole`, each stretch is looked at as if it was long enough for the remainders to repeat."""
        self.forms = forms
        self.form = form
        self.places = places_in(forms, [form], 1 << number)
        self.width = 1
        cuts = {}
        for place in self.places:
            node = forms.nodes[place]
            if node[0] == "below":
                cuts[node[2]] = True
            elif node[0] == "rest":
                self.width = lcm(self.width, node[2])
        self.cuts = sorted(cuts)
        self.lows = []
        self.lengths = []
        self.set_stretches(whole)

    def set_stretches(self, whole):
        """Sets from where on and for how many numbers each stretch is looked at."""
        if len(self.cuts) == 0:
            self.lows.append(0)
        else:
            self.lows.append(self.cuts[0] - self.width)
        self.lengths.append(self.width)
        for k, cut in enumerate(self.cuts):
            self.lows.append(cut)
            last = whole or k + 1 == len(self.cuts)
            self.lengths.append(self.width if last else min(self.width, self.cuts[k + 1] - cut))

    def many_bits(self):
        """How many bits stand side by side."""
        return sum(self.lengths)

    def is_feasible(self):
        """Whether the bits are not too many."""
        many = self.many_bits()
        return self.width <= LONGEST and many <= MOST_BITS and self.forms.can_spend(self.cost())

    def cost(self):
        """The steps that it takes to work out all bits."""
        each = 1 + self.many_bits() // 500
        cost = 0
        for place in self.places:
            node = self.forms.nodes[place]
            if node[0] == "rest":
                cost += 2 * len(self.lengths) + len(node[3])
            cost += each * (len(node[1]) if node[0] == "all" else 1)
        return cost

    def bits_below(self):
        """For each cut the bits of the numbers that are less."""
        found = {}
        many = 0
        for cut, length in zip(self.cuts, self.lengths):
            many += length
            found[cut] = (1 << many) - 1
        return found

    def bits_rest(self, modulus, residues):
        """The bits of the numbers that leave one of the residues."""
        row = 0
        for residue in residues:
            row |= 1 << residue
        texts = []
        for low, length in zip(self.lows, self.lengths):
            texts.append(f"{window(row, modulus, low, length):b}".zfill(length))
        return int("".join(texts[::-1]), 2)

    def bits(self):
        """The bits of the solutions of the form."""
        self.forms.spend(self.cost())
        full = (1 << self.many_bits()) - 1
        told = {0: full}
        less = self.bits_below()
        for place in self.places:
            node = self.forms.nodes[place]
            if node[0] == "below":
                told[place] = less[node[2]]
            elif node[0] == "rest":
                told[place] = self.bits_rest(node[2], node[3])
            elif node[0] == "all":
                bits = full
                for part in node[1]:
                    bits &= told[part >> 1] ^ (full if part & 1 == 1 else 0)
                told[place] = bits
        return told[self.form >> 1] ^ (full if self.form & 1 == 1 else 0)

    def pieces(self):
        """The pieces of the set of the solutions, as in strips.py."""
        if not self.is_feasible():
            raise TooLarge("the numbers repeat only after too many of them")
        bits = self.bits()
        pieces = []
        for k, length in enumerate(self.lengths):
            part = bits & ((1 << length) - 1)
            bits >>= length
            high = self.cuts[k] if k < len(self.cuts) else None
            pieces.append((high, anchored(part, self.lows[k], length), length))
        return pieces
