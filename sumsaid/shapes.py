"""Shapes of functions of one number: their values for each integer, in just one way."""

from math import lcm

from sumsaid.curves import Curve, worth_on
from sumsaid.errors import TooLarge
from sumsaid.forms import Forms
from sumsaid.patterns import joined
from sumsaid.strips import LONGEST, anchored, bits_of, written

# Numbers that are nearer to one another stand in one piece.
CLOSE = 100
# The bits of all pieces of an image before they are made one.
MOST_BITS = 40000000


def shape_of(function):
    """The shape of a function of one number."""
    curve = Curve(Forms(), function)
    left = curve.far_lines(-1)
    right = curve.far_lines(1)
    start = curve.first_other(left)
    if start is None:
        return left, 0, (), right
    end = curve.last_other(right) + 1
    if end - start > LONGEST:
        raise TooLarge("the middle of the shape is too long")
    return left, min(start, end), tuple([curve.worth(x) for x in range(start, end)]), right


def value_at(shape, x):
    """The value of a shape at a number, or None."""
    left, start, middle, right = shape
    if x < start:
        return worth_on(left[x % len(left)], x)
    if x < start + len(middle):
        return middle[x - start]
    return worth_on(right[x % len(right)], x)


def is_rising(shape):
    """Whether the value at a number is never greater than the value at a greater number."""
    left, start, middle, right = shape
    if have_slopes(left) or have_slopes(right):
        return False
    # All lines of a side are as steep as the others, so what holds twice around holds everywhere.
    last = None
    for x in range(start - 2 * len(left), start + len(middle) + 2 * len(right)):
        found = value_at(shape, x)
        if last is not None and found is not None and found < last:
            return False
        last = last if found is None else found
    return True


def have_slopes(lines):
    """Whether some lines are steeper than others: far away they come apart."""
    return len({(line[0], line[1]) for line in lines if line is not None}) > 1


def image(shape):
    """The pattern of all values of a shape."""
    left, start, middle, right = shape
    end = start + len(middle)
    rows = Rows()
    for found in middle:
        rows.take_line(found, found)
    for x in range(start - len(left), start):
        rows.take_line(value_at(shape, x), value_at(shape, x - len(left)))
    for x in range(end, end + len(right)):
        rows.take_line(value_at(shape, x), value_at(shape, x + len(right)))
    return written(rows.gathered())


class Rows:
    """Rows of values, each from its first one on upwards or downwards by the same step.

    alone: values of rows with the step 0; firsts: for a step (negative: downwards) and a remainder by it
    the first value.
    """

    def __init__(self):
        self.alone = {}
        self.firsts = {}

    def take_line(self, found, further):
        """Takes in a row by its first two values, None for a row without values."""
        if found is None or further is None:
            return
        step = further - found
        if step == 0:
            self.alone[found] = True
            return
        key = (step, found % abs(step))
        if key not in self.firsts or (found - self.firsts[key]) * step < 0:
            self.firsts[key] = found

    def gathered(self):
        """The pieces of all values."""
        width = 1
        for step, _ in self.firsts:
            width = lcm(width, step)
        if width * len(self.firsts) > MOST_BITS:
            raise TooLarge("the values repeat only after too many of them")
        pieces = [pieces_alone(sorted(self.alone))]
        for (step, _), first in self.firsts.items():
            pieces.append(pieces_from(first, step))
        while len(pieces) > 1:
            left = pieces[-1:] if len(pieces) & 1 == 1 else []
            for k in range(0, len(pieces) - 1, 2):
                left.append(joined(pieces[k], pieces[k + 1], True))
            pieces = left
        return pieces[0]


def pieces_from(first, step):
    """The pieces of the values that begin at one and go on by a step."""
    width = abs(step)
    bits = 1 << first % width
    if step > 0:
        return [(first, 0, 1), (None, bits, width)]
    return [(first + 1, bits, width), (None, 0, 1)]


def pieces_alone(numbers):
    """The pieces of numbers, which are ascending."""
    pieces = []
    low = 0
    while low < len(numbers):
        end = low + 1
        while end < len(numbers) and numbers[end] - numbers[end - 1] < CLOSE:
            end += 1
        pieces.append((numbers[low], 0, 1))
        pieces.append(piece_of(numbers[low:end]))
        low = end
    pieces.append((None, 0, 1))
    return pieces


def piece_of(numbers):
    """The piece from the first to the last one of ascending numbers."""
    low = numbers[0]
    row = [False] * (numbers[-1] + 1 - low)
    for number in numbers:
        row[number - low] = True
    return low + len(row), anchored(bits_of(row), low, len(row)), len(row)
