"""Patterns: sets of integers that repeat far below and far above."""

from math import gcd, lcm

from sumsaid.errors import TooLarge
from sumsaid.forms import Forms
from sumsaid.reading import Reader
from sumsaid.strips import LONGEST, anchored, pieces_of, window, written
from sumsaid.tracing import Trace


def pattern_of(saying, values):
    """The pattern of the values of the next number for which, behind the given ones, a saying holds."""
    forms = Forms()
    form = Reader(forms, saying, values).read(len(values) + 1)
    return written(Trace(forms, form, len(values)).pieces())


def is_in(pattern, number):
    """Whether a number is in a pattern."""
    left, start, middle, right = pattern
    if number < start:
        return left[number % len(left)]
    if number < start + len(middle):
        return middle[number - start]
    return right[number % len(right)]


def beside(pattern):
    """The pattern of the numbers that are not in a pattern."""
    return written([(high, bits ^ ((1 << width) - 1), width) for high, bits, width in pieces_of(pattern)])


def union(first, second):
    """The pattern of the numbers that are in at least one of two patterns."""
    return written(joined(pieces_of(first), pieces_of(second), True))


def meet(first, second):
    """The pattern of the numbers that are in both of two patterns."""
    return written(joined(pieces_of(first), pieces_of(second), False))


def joined(first, second, is_union):
    """The pieces of the numbers in one of two lists of pieces, or in both."""
    pieces = []
    low = None
    at = other = 0
    while at < len(first) and other < len(second):
        high = lesser(first[at][0], second[other][0])
        pieces.append(joined_piece(first[at], second[other], low, high, is_union))
        low = high
        at += 1 if first[at][0] == high else 0
        other += 1 if second[other][0] == high else 0
    return pieces


def lesser(first, second):
    """The lesser one of two numbers, where None is greater than all."""
    if first is None:
        return second
    return first if second is None else min(first, second)


def joined_piece(first, second, low, high, is_union):
    """The piece from `low` to below `high` of the numbers in one of two pieces, or in both."""
    width = lcm(first[2], second[2])
    length = None if low is None or high is None else high - low
    if length is not None and length < width:
        width = length
    if width > LONGEST:
        raise TooLarge("the numbers repeat only after too many of them")
    start = 0 if low is None else low
    bits = window(first[1], first[2], start, width)
    others = window(second[1], second[2], start, width)
    return high, anchored(bits | others if is_union else bits & others, start, width), width


def moved(pattern, factor, constant):
    """The pattern of the numbers y for which `factor * y + constant` is in a pattern."""
    left, start, middle, right = pattern
    end = start + len(middle)
    if factor < 0:
        left, right = right, left
        start, end = end - 1, start - 1
    # The least numbers that are moved to the start or beyond it, and to the end or beyond it.
    low = -((constant - start) // factor)
    high = -((constant - end) // factor)
    inner = tuple([is_in(pattern, factor * y + constant) for y in range(low, high)])
    return written(pieces_of((moved_row(left, factor, constant), low, inner, moved_row(right, factor, constant))))


def moved_row(row, factor, constant):
    """The row that repeats, of the numbers that are moved to those of a row that repeats."""
    width = len(row) // gcd(len(row), factor)
    return tuple([row[(factor * y + constant) % len(row)] for y in range(width)])


def next_from(pattern, number):
    """The least number in a pattern that is at least `number`, or None."""
    left, start, middle, right = pattern
    end = start + len(middle)
    for low, high in ((number, min(start, number + len(left))), (max(number, start), end)):
        for y in range(low, high):
            if is_in(pattern, y):
                return y
    low = max(number, end)
    for y in range(low, low + len(right)):
        if is_in(pattern, y):
            return y
    return None


def next_to(pattern, number):
    """The greatest number in a pattern that is at most `number`, or None."""
    mirrored = next_from(mirror(pattern), -number)
    return None if mirrored is None else -mirrored


def mirror(pattern):
    """The pattern of the negative numbers, not in its one way."""
    left, start, middle, right = pattern
    turned_left = tuple([right[-y % len(right)] for y in range(len(right))])
    turned_right = tuple([left[-y % len(left)] for y in range(len(left))])
    return turned_left, 1 - start - len(middle), middle[::-1], turned_right


def nearest(pattern, number):
    """The number in a pattern whose distance is the least, the greater one of two, or None."""
    above = next_from(pattern, number)
    under = next_to(pattern, number)
    if above is None or under is None:
        return under if above is None else above
    return above if above - number <= number - under else under


def count_in(pattern, low, high):
    """How many numbers of a pattern are at least `low` and less than `high`."""
    left, start, middle, right = pattern
    end = start + len(middle)
    many = count_in_row(left, low, min(high, start))
    for y in range(max(low, start), min(high, end)):
        many += 1 if middle[y - start] else 0
    return many + count_in_row(right, max(low, end), high)


def count_in_row(row, low, high):
    """How many numbers from `low` to below `high` are in a row that repeats everywhere."""
    if low >= high:
        return 0
    times, further = divmod(high - low, len(row))
    over = [row[(low + k) % len(row)] for k in range(further)]
    return times * row.count(True) + over.count(True)
