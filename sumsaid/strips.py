"""Sets of integers that repeat, as integers whose bits say which numbers are there.

A strip (bits, width) is a set that repeats everywhere: a number y is in it if the bit y mod width is set.
Pieces are a list of (high, bits, width): each holds from the high of the one before it to below its own
high; the last one has the high None. So they describe any set that repeats far below and far above.
"""

from sumsaid.atoms import prime_divisors
from sumsaid.errors import TooLarge

# Neither a part that repeats nor the middle of a pattern may be longer.
LONGEST = 1000000


def stretched(bits, width, length):
    """The first bits, `length` many, of bits that repeat by the width."""
    while width < length:
        bits |= bits << width
        width *= 2
    return bits & ((1 << length) - 1)


def window(bits, width, low, length):
    """The bits of a strip from the number `low` on, `length` many."""
    shift = low % width
    turned = (bits >> shift) | ((bits & ((1 << shift) - 1)) << (width - shift))
    return stretched(turned, width, length)


def anchored(bits, low, length):
    """The strip of bits that stand for the numbers from `low` on: what repeats elsewhere does not matter."""
    return window(bits, length, -low, length)


def bits_of(row):
    """The bits of a row of True and False."""
    return int("".join(["1" if there else "0" for there in row[::-1]]), 2)


def row_of(bits, width):
    """The row of True and False of bits."""
    text = f"{bits:b}".zfill(width)
    return tuple([sign == "1" for sign in text[::-1]])


def shortest(bits, width):
    """The strip of the same set with the least width."""
    for prime in prime_divisors(width):
        while width % prime == 0:
            less = width // prime
            if stretched(bits & ((1 << less) - 1), less, width) != bits:
                break
            width = less
            bits &= (1 << less) - 1
    return bits, width


def first_difference(pieces, bits, width):
    """The least number at which the pieces are not as a strip, which is their first one, or None."""
    low = pieces[0][0]
    for high, other, size in pieces[1:]:
        length = compared(size + width, low, high)
        differing = window(other, size, low, length) ^ window(bits, width, low, length)
        if differing != 0:
            return low + (differing & -differing).bit_length() - 1
        low = high
    return None


def last_difference(pieces, bits, width):
    """The greatest number at which the pieces are not as a strip, which is their last one, or None."""
    for k in range(len(pieces) - 2, -1, -1):
        high, other, size = pieces[k]
        length = compared(size + width, pieces[k - 1][0] if k > 0 else None, high)
        low = high - length
        differing = window(other, size, low, length) ^ window(bits, width, low, length)
        if differing != 0:
            return low + differing.bit_length() - 1
    return None


def compared(widths, low, high):
    """How many numbers tell whether two strips are alike from `low` to below `high` (None: without a bound).

    Strips that are alike on as many numbers as their widths together are alike everywhere.
    """
    if low is None or high is None:
        return widths
    return min(widths, high - low)


def middle_of(pieces, start, end):
    """The bits of the pieces from the number `start` to below `end`."""
    if end - start > LONGEST:
        raise TooLarge("the middle of the pattern is too long")
    texts = []
    low = start
    for high, bits, width in pieces:
        top = end if high is None or high > end else high
        if top > low:
            texts.append(f"{window(bits, width, low, top - low):b}".zfill(top - low))
            low = top
    return int("".join(texts[::-1]), 2)


def written(pieces):
    """The pattern of the pieces, in its one way."""
    _, bits, width = pieces[0]
    left, left_width = shortest(bits, width)
    _, bits, width = pieces[-1]
    right, right_width = shortest(bits, width)
    start = first_difference(pieces, left, left_width)
    if start is None:
        row = row_of(left, left_width)
        return row, 0, (), row
    end = last_difference(pieces, right, right_width) + 1
    middle = row_of(middle_of(pieces, start, end), end - start) if start < end else ()
    return row_of(left, left_width), min(start, end), middle, row_of(right, right_width)


def pieces_of(pattern):
    """The pieces of a pattern."""
    left, start, middle, right = pattern
    pieces = [(start, bits_of(left), len(left))]
    if len(middle) > 0:
        pieces.append((start + len(middle), anchored(bits_of(middle), start, len(middle)), len(middle)))
    pieces.append((None, bits_of(right), len(right)))
    return pieces


def nearest_to_zero(pieces):
    """The number of the pieces whose distance from 0 is the least, the greater one of two, or None."""
    above = first_from_zero(pieces)
    under = last_below_zero(pieces)
    if above is None or under is None:
        return under if above is None else above
    return above if above <= -under else under


def first_from_zero(pieces):
    """The least number of the pieces that is not below 0, or None."""
    low = 0
    for high, bits, width in pieces:
        if high is None or high > low:
            found = window(bits, width, low, width if high is None else min(width, high - low))
            if found != 0:
                return low + (found & -found).bit_length() - 1
            low = high
    return None


def last_below_zero(pieces):
    """The greatest number of the pieces that is below 0, or None."""
    end = 0
    for k in range(len(pieces) - 1, -1, -1):
        _, bits, width = pieces[k]
        low = pieces[k - 1][0] if k > 0 else None
        if low is None or low < end:
            length = width if low is None else min(width, end - low)
            found = window(bits, width, end - length, length)
            if found != 0:
                return end - length + found.bit_length() - 1
            end = low
    return None
