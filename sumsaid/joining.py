"""Forms of several forms that hold together, or of which at least one holds."""

from sumsaid.forms import FALSE, TRUE

# What is nested deeper is not made lighter: that is done by calls which are as deep as the forms.
MOST_DEEP = 40


def opposite(form):
    """The form that holds exactly where a form does not."""
    return form ^ 1


def some_of(forms, parts):
    """The form that holds where at least one of the parts does."""
    return opposite(all_of(forms, [opposite(part) for part in parts]))


def all_of(forms, parts):
    """The form that holds where all parts do."""
    gathering = Gathering(forms)
    gathering.take(parts)
    gathering.lighten()
    return gathering.whole()


def parts_of(forms, form):
    """The parts that hold together where a form holds."""
    node = forms.node_of(form)
    if node[0] == "all" and form & 1 == 0:
        return list(node[1])
    return [form]


def choices_of(forms, form):
    """The parts of which one holds where a form holds: the form alone if it is not made of several ones."""
    return [opposite(part) for part in parts_of(forms, opposite(form))]


def is_choice(forms, form):
    """Whether a form is written as several parts of which one holds."""
    return form & 1 == 1 and forms.node_of(form)[0] == "all"


def both_rests(first, first_sign, second, second_sign):
    """The residues, and the sign, of two remainder forms that hold together; a sign 1 means the opposite."""
    if first_sign == 1 and second_sign == 1:
        return tuple(sorted(set(first) | set(second))), 1
    if first_sign == 1:
        return tuple(sorted(set(second) - set(first))), 0
    if second_sign == 1:
        return tuple(sorted(set(first) - set(second))), 0
    return tuple(sorted(set(first) & set(second))), 0


class Gathering:
    """Parts that are to hold together, with what is known of sums and remainders where they do.

    bounds: for factors the least and the greatest value of the sum, None for no bound;
    rests: for factors and a modulus the residues, and 1 if it is their opposite that holds;
    choices: the parts that are of the kind "one of these".
    """

    def __init__(self, forms):
        self.forms = forms
        self.bounds = {}
        self.rests = {}
        self.choices = {}
        self.broken = False

    def take(self, parts):
        """Takes parts in; parts that are made of several ones are taken apart."""
        waiting = list(parts)
        while len(waiting) > 0 and not self.broken:
            part = waiting.pop()
            self.forms.spend(1)
            node = self.forms.node_of(part)
            if node[0] == "true":
                self.broken = part == FALSE
            elif node[0] == "below":
                self.take_below(node, part & 1)
            elif node[0] == "rest":
                self.take_rest(node, part & 1)
            elif part & 1 == 0:
                waiting.extend(list(node[1]))
            else:
                self.choices[part] = True

    def take_below(self, node, sign):
        """Takes a comparison in, or its opposite."""
        _, factors, bound = node
        low, high = self.bounds.get(factors, (None, None))
        if sign == 0 and (high is None or bound - 1 < high):
            high = bound - 1
        if sign == 1 and (low is None or bound > low):
            low = bound
        self.bounds[factors] = (low, high)
        if low is not None and high is not None and low > high:
            self.broken = True

    def take_rest(self, node, sign):
        """Takes remainders in, or the opposite."""
        _, factors, modulus, residues = node
        key = (factors, modulus)
        if key not in self.rests:
            self.rests[key] = (residues, sign)
            return
        old, old_sign = self.rests[key]
        self.forms.spend(len(old) + len(residues))
        met, met_sign = both_rests(old, old_sign, residues, sign)
        # What is left may have a smaller modulus, and meet what is known of that.
        del self.rests[key]
        self.take([self.forms.rest(factors, modulus, met) ^ met_sign])

    def told_of(self, part):
        """1 if a part holds where the taken ones do, -1 if it does not, 0 if that is not seen."""
        node = self.forms.node_of(part)
        sign = part & 1
        if node[0] == "below":
            told = self.told_of_below(node)
        elif node[0] == "rest":
            told = self.told_of_rest(node)
        elif part in self.choices:
            return 1
        else:
            return -1 if opposite(part) in self.choices else 0
        return -told if sign == 1 else told

    def told_of_below(self, node):
        """What is known of a comparison, as in `told_of`."""
        low, high = self.bounds.get(node[1], (None, None))
        if high is not None and high < node[2]:
            return 1
        if low is not None and low >= node[2]:
            return -1
        return 0

    def told_of_rest(self, node):
        """What is known of remainders, as in `told_of`."""
        _, factors, modulus, residues = node
        if (factors, modulus) not in self.rests:
            return 0
        old, sign = self.rests[(factors, modulus)]
        self.forms.spend(len(old) + len(residues))
        many = len(set(old) & set(residues))
        if sign == 1:
            # All residues but the old ones may be left.
            if many == len(residues):
                return -1
            return 1 if len(residues) - many == modulus - len(old) else 0
        if many == 0:
            return -1
        return 1 if many == len(old) else 0

    def lighten(self):
        """Takes from the choices what holds, or does not hold, anyway where the other parts hold."""
        changed = True
        while changed and not self.broken:
            changed = False
            for choice in list(self.choices):
                lighter = self.lighter(choice) if self.forms.depth_of(choice) <= MOST_DEEP else choice
                if lighter != choice:
                    del self.choices[choice]
                    self.take([lighter])
                    changed = True

    def lighter(self, choice):
        """A choice without what is told of its parts by the other parts that were taken."""
        kept = []
        changed = False
        for part in choices_of(self.forms, choice):
            self.forms.spend(1)
            left = self.left_of(part)
            if left == TRUE:
                return TRUE
            if left != FALSE:
                kept.append(left)
            changed = changed or left != part
        return some_of(self.forms, kept) if changed else choice

    def left_of(self, part):
        """What of one part of a choice is not told by the other parts that were taken."""
        told = self.told_of(part)
        if told != 0:
            return TRUE if told == 1 else FALSE
        pieces = parts_of(self.forms, part)
        if len(pieces) == 1:
            return part
        kept = []
        for piece in pieces:
            self.forms.spend(1)
            told = self.told_of(piece)
            if told == -1:
                return FALSE
            if told == 0:
                kept.append(piece)
        # Pieces of a simplified form are simplified and in order.
        return part if len(kept) == len(pieces) else self.forms.kept_all(kept)

    def whole(self):
        """The form of all parts that were taken."""
        if self.broken:
            return FALSE
        parts = list(self.choices)
        for factors, (low, high) in self.bounds.items():
            if low is not None:
                parts.append(opposite(self.forms.kept_below(factors, low)))
            if high is not None:
                parts.append(self.forms.kept_below(factors, high + 1))
        for (factors, modulus), (residues, sign) in self.rests.items():
            parts.append(self.forms.kept_rest(factors, modulus, residues) ^ sign)
        return self.forms.kept_all(sorted(parts))
