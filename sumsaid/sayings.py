"""Sayings about whole numbers: what they say, and plain ones that say the same."""

from sumsaid.forms import TRUE, Forms
from sumsaid.reading import Reader, Writer

MOST_LINES = 40
MOST_FACTORS = 6
GREATEST_FACTOR = 9
GREATEST_CONSTANT = 99
GREATEST_MODULUS = 12


def is_saying(saying):
    """Whether a tuple of tuples is a saying within the bounds."""
    if not 1 <= len(saying) <= MOST_LINES:
        return False
    return all([is_line(line, index) for index, line in enumerate(saying)])


def is_line(line, index):
    """Whether a tuple can be the line with an index."""
    if len(line) == 2 and line[0] in ("not", "there"):
        return 0 <= line[1] < index
    if len(line) == 3 and line[0] == "both":
        return 0 <= line[1] < index and 0 <= line[2] < index
    if len(line) == 3 and line[0] == "below":
        return are_factors(line[1]) and abs(line[2]) <= GREATEST_CONSTANT
    if len(line) == 4 and line[0] == "rest":
        return are_factors(line[1]) and 1 <= line[2] <= GREATEST_MODULUS and 0 <= line[3] < line[2]
    return False


def are_factors(factors):
    """Whether a tuple can be the factors of a line."""
    return len(factors) <= MOST_FACTORS and all([abs(factor) <= GREATEST_FACTOR for factor in factors])


def is_plain(saying):
    """Whether a saying has no line `there`."""
    return all([line[0] != "there" for line in saying])


def says(saying, values):
    """Whether a saying holds for values of the given numbers."""
    if is_plain(saying):
        return says_plainly(saying, values)
    return Reader(Forms(), saying, values).read(len(values)) == TRUE


def says_plainly(saying, values):
    """Whether a plain saying holds: nothing has to be made for it."""
    held = []
    for line in saying:
        if line[0] == "below":
            held.append(worth(line[1], values) < line[2])
        elif line[0] == "rest":
            held.append(worth(line[1], values) % line[2] == line[3])
        elif line[0] == "not":
            held.append(not held[line[1]])
        else:
            held.append(held[line[1]] and held[line[2]])
    return held[-1]


def worth(factors, values):
    """The sum of each factor times its number; numbers that are not there count as 0."""
    return sum([factor * value for factor, value in zip(factors, values)])


def decide(saying):
    """Whether a saying holds without given numbers."""
    return says(saying, ())


def plain(saying, count):
    """A plain saying that holds for the same values of so many given numbers."""
    if is_plain(saying):
        return with_numbers(saying, count)
    forms = Forms()
    form = Reader(forms, saying, ()).read(count)
    return Writer(forms).write(form)


def with_numbers(saying, count):
    """A plain saying without the factors of numbers that are not there."""
    return tuple([(line[0], line[1][:count]) + line[2:] if line[0] in ("below", "rest") else line for line in saying])
