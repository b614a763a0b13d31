"""Shorter forms for those that are about one number alone."""

from sumsaid.joining import all_of, opposite, some_of
from sumsaid.placing import places_in
from sumsaid.strips import compared, row_of, shortest, window
from sumsaid.tracing import Trace

# Forms with fewer nodes are short enough.
FEWEST_NODES = 8
# Beyond these, a form of what is traced would hardly be shorter.
MOST_WIDTH = 2000
MOST_BITS = 100000


def shortened(forms, form):
    """The same as a form; if that is about one number, it may be written with less."""
    numbers = forms.numbers_of(form)
    if numbers == 0 or numbers & (numbers - 1) != 0:
        return form
    if len(places_in(forms, [form], numbers)) < FEWEST_NODES:
        return form
    number = numbers.bit_length() - 1
    trace = Trace(forms, form, number, True)
    if trace.width > MOST_WIDTH or trace.many_bits() > MOST_BITS or not trace.is_feasible():
        return form
    other = some_of(forms, [in_piece(forms, piece, number) for piece in merged(trace.pieces())])
    return other if size_of(forms, other) < size_of(forms, form) else form


def size_of(forms, form):
    """How much is written for a form."""
    size = 0
    for place in places_in(forms, [form], -1):
        node = forms.nodes[place]
        if node[0] == "all":
            size += len(node[1])
        else:
            size += 2 * len(node[3]) if node[0] == "rest" else 1
    return size


def merged(pieces):
    """Pieces (low, high, strip) of the same set, with pieces that are alike made one."""
    found = []
    low = None
    for high, bits, width in pieces:
        strip = shortest(bits, width)
        start = low
        if len(found) > 0 and are_alike(found[-1][2], strip, low, high):
            start, _, strip = found.pop()
        while len(found) > 0 and are_alike(found[-1][2], strip, found[-1][0], found[-1][1]):
            start = found.pop()[0]
        found.append((start, high, strip))
        low = high
    return found


def are_alike(first, second, low, high):
    """Whether two strips are the same from `low` to below `high`, one of which may be None for no bound."""
    length = compared(first[1] + second[1], low, high)
    start = high - length if low is None else low
    return window(first[0], first[1], start, length) == window(second[0], second[1], start, length)


def in_piece(forms, piece, number):
    """The form of: the number is in a piece."""
    low, high, (bits, width) = piece
    residues = [k for k, there in enumerate(row_of(bits, width)) if there]
    if low is not None and high is not None and high - low <= 2 * width:
        runs = runs_of(row_of(window(bits, width, low, high - low), high - low), low)
        if len(runs) <= 1 + min(len(residues), width - len(residues)):
            return some_of(forms, [between(forms, start, end, number) for start, end in runs])
    leaves = forms.rest(one_factor(number), width, residues)
    return all_of(forms, [between(forms, low, high, number), leaves])


def runs_of(row, low):
    """(start, end) for each run of numbers that are there, where the row stands for the numbers from `low` on."""
    runs = []
    start = None
    for k, there in enumerate(row + (False,)):
        if there and start is None:
            start = low + k
        if not there and start is not None:
            runs.append((start, low + k))
            start = None
    return runs


def between(forms, low, high, number):
    """The form of: the number is at least `low` and less than `high`, None for no bound."""
    parts = []
    if low is not None:
        parts.append(opposite(forms.below(one_factor(number), low)))
    if high is not None:
        parts.append(forms.below(one_factor(number), high))
    return all_of(forms, parts)


def one_factor(number):
    """The factors of the sum that is the number itself."""
    return tuple([0] * number + [1])
