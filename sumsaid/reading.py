"""Plain forms of sayings, and plain sayings of forms."""

from sumsaid.errors import TooLarge
from sumsaid.forms import TRUE
from sumsaid.joining import all_of, opposite
from sumsaid.placing import places_in
from sumsaid.removal import Remover

# A saying with more lines counts as too large.
MOST_LINES = 100000


def parts_named(line):
    """The indices of the lines that a line names."""
    if line[0] == "below" or line[0] == "rest":
        return ()
    return line[1:]


def depths_of(saying, count):
    """For each line, at its index, a dict whose keys tell how many numbers there are around its uses."""
    depths = [{} for _ in saying]
    depths[-1][count] = True
    for index in range(len(saying) - 1, -1, -1):
        further = 1 if saying[index][0] == "there" else 0
        for named in parts_named(saying[index]):
            for depth in list(depths[index]):
                depths[named][depth + further] = True
    return depths


class Reader:
    """Makes the plain form of a saying, with values for the first numbers; `there` lines are worked out."""

    def __init__(self, forms, saying, values):
        self.forms = forms
        self.remover = Remover(forms)
        self.lines = saying
        self.worths = values
        # For a line and a number of numbers: a form, and the numbers (a sum of powers of 2) that it asks for.
        self.told = {}

    def read(self, count):
        """The form of the saying, about `count` numbers."""
        depths = depths_of(self.lines, count)
        for index, line in enumerate(self.lines):
            for depth in depths[index]:
                self.told[(index, depth)] = self.told_by(line, depth)
        return self.settled(len(self.lines) - 1, count)

    def told_by(self, line, depth):
        """The form of a line with so many numbers, and what it asks for."""
        if line[0] == "below":
            factors, shift = self.with_values(line[1], depth)
            return self.forms.below(factors, line[2] - shift), 0
        if line[0] == "rest":
            factors, shift = self.with_values(line[1], depth)
            return self.forms.rest(factors, line[2], ((line[3] - shift) % line[2],)), 0
        if line[0] == "not":
            return opposite(self.settled(line[1], depth)), 0
        if line[0] == "both":
            return self.told_by_both(line[1], line[2], depth)
        form, asked = self.told[(line[1], depth + 1)]
        return form, asked | 1 << depth

    def told_by_both(self, first, second, depth):
        """The form of two lines, and what they ask for; only one of them may still ask, as their numbers meet."""
        form, asked = self.told[(first, depth)]
        other, more = self.told[(second, depth)]
        if asked != 0 and more != 0:
            form = self.settled(first, depth)
            asked = 0
        return all_of(self.forms, [form, other]), asked | more

    def settled(self, index, depth):
        """The form of a line that asks for nothing more."""
        form, asked = self.told[(index, depth)]
        return self.remover.without(form, asked)

    def with_values(self, factors, depth):
        """The factors of the numbers that have no value, and the value of the rest of the sum."""
        shift = 0
        left = list(factors[:depth])
        for k, worth in enumerate(self.worths[:len(left)]):
            shift += left[k] * worth
            left[k] = 0
        return left, shift


class Writer:
    """Writes the lines of a form."""

    def __init__(self, forms):
        self.forms = forms
        self.lines = []
        self.places = {}

    def write(self, form):
        """The plain saying of a form."""
        for place in places_in(self.forms, [form], -1):
            node = self.forms.nodes[place]
            if node[0] == "all":
                self.places[2 * place] = self.joined([self.place_of(part) for part in node[1]])
        self.place_of(form)
        return tuple(self.lines)

    def put(self, line):
        """Writes a line, and returns its index."""
        if len(self.lines) >= MOST_LINES:
            raise TooLarge("the saying has too many lines")
        self.lines.append(line)
        return len(self.lines) - 1

    def place_of(self, form):
        """The index of the line that says a form; it is written if it is not there."""
        if form not in self.places:
            node = self.forms.node_of(form)
            if node[0] == "true":
                self.places[form] = self.put(("below", (), 1 if form == TRUE else 0))
            elif node[0] == "below":
                self.places[form] = self.put(below_line(node, form & 1))
            elif form & 1 == 1:
                self.places[form] = self.put(("not", self.place_of(opposite(form))))
            else:
                self.places[form] = self.put_rest(node)
        return self.places[form]

    def put_rest(self, node):
        """Writes that a sum leaves one of some residues."""
        lines = []
        for residue in node[3]:
            lines.append(self.put(("rest", node[1], node[2], residue)))
        if len(lines) == 1:
            return lines[0]
        return self.put(("not", self.joined([self.put(("not", line)) for line in lines])))

    def joined(self, places):
        """Writes that several lines hold, two by two so that no line stands far above another one."""
        while len(places) > 1:
            left = []
            for k in range(0, len(places) - 1, 2):
                left.append(self.put(("both", places[k], places[k + 1])))
            if len(places) & 1 == 1:
                left.append(places[-1])
            places = left
        return places[0]


def below_line(node, sign):
    """The line of a comparison, or of its opposite (sign 1)."""
    if sign == 0:
        return node
    return ("below", tuple([-factor for factor in node[1]]), 1 - node[2])
