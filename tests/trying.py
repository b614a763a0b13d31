"""What sayings say by plain trying of all numbers of a range, and small sayings and functions to be tried."""

from sumsaid.functions import greatest_to, least_from


def source(saying, index, depth, reach):
    """Python's words for a line with so many numbers around; `there` tries the numbers of a range."""
    line = saying[index]
    if line[0] in ("below", "rest"):
        terms = [f"({factor}) * x{k}" for k, factor in enumerate(line[1][:depth])]
        total = " + ".join(terms) if terms else "0"
        return f"({total} < {line[2]})" if line[0] == "below" else f"(({total}) % {line[2]} == {line[3]})"
    if line[0] == "not":
        return f"(not {source(saying, line[1], depth, reach)})"
    if line[0] == "both":
        return f"({source(saying, line[1], depth, reach)} and {source(saying, line[2], depth, reach)})"
    bound = reach[depth]
    return f"any({source(saying, line[1], depth + 1, reach)} for x{depth} in range({-bound}, {bound + 1}))"


def trial(saying, count, reach):
    """A function of values: whether the saying holds for them.

    `there` tries the numbers from -reach[k] to reach[k], where k is the index of its number.
    """
    names = ", ".join([f"x{k}" for k in range(count)])
    return eval(f"lambda {names}: {source(saying, len(saying) - 1, count, reach)}")


def comparison(random, factors):
    """A line `below` or `rest` of a small saying with these factors."""
    if random.random() < 0.6:
        return ("below", factors, random.randint(-10, 10))
    modulus = random.randint(1, 4)
    return ("rest", factors, modulus, random.randrange(modulus))


def some_factors(random, count, sought, most=2):
    """Factors of a small saying: those of sought numbers, which come last, are from -1 to 1."""
    return tuple([random.randint(-most, most) for _ in range(count)] + [random.randint(-1, 1) for _ in range(sought)])


def small(random, count, sought, most_comparisons=3, most=2):
    """The lines of a small saying about given numbers and sought ones."""
    lines = []
    for _ in range(random.randint(1, most_comparisons)):
        lines.append(comparison(random, some_factors(random, count, sought, most)))
    loose = list(range(len(lines)))
    random.shuffle(loose)
    while len(loose) > 1 or (len(lines) < 8 and random.random() < 0.3):
        room = 8 - len(lines) - (len(loose) - 1)
        if room > 0 and random.random() < 0.5:
            lines.append(("not", loose.pop()))
        elif len(loose) > 1:
            lines.append(("both", loose.pop(), loose.pop()))
        else:
            continue
        loose.insert(random.randint(0, len(loose)), len(lines) - 1)
    if loose[0] != len(lines) - 1:
        lines.append(("both", loose[0], loose[0]))
    return lines


def with_there(random, count):
    """A small saying with one line `there` after it, also inside lines not and both with one more line."""
    lines = small(random, count, 1)
    lines.append(("there", len(lines) - 1))
    if random.random() < 0.5:
        lines.append(("not", len(lines) - 1))
    if random.random() < 0.5:
        lines.append(comparison(random, some_factors(random, count, 0)))
        lines.append(("both", len(lines) - 2, len(lines) - 1))
        if random.random() < 0.5:
            lines.append(("not", len(lines) - 1))
    return tuple(lines)


def with_two_theres(random):
    """A saying that is small for two sought numbers, with two lines `there` after it."""
    lines = small(random, 0, 2)
    lines.append(("there", len(lines) - 1))
    lines.append(("there", len(lines) - 1))
    return tuple(lines)


def shifted(lines, by):
    """Lines whose indices are greater."""
    moved = []
    for line in lines:
        if line[0] in ("below", "rest"):
            moved.append(line)
        else:
            moved.append((line[0],) + tuple([index + by for index in line[1:]]))
    return moved


def of_theres(random, count):
    """A saying made by not and both of one or two lines `there`, which are not nested, and of a small saying.

    All factors are from -1 to 1 and all divisors at most 3; one more number is sought behind the given ones.
    """
    lines = []
    loose = []
    for k in range(random.randint(2, 3)):
        part = limited(small(random, count, 1 if k == 0 else 2, 2, 1))
        lines.extend(shifted(part, len(lines)))
        if k > 0:
            lines.append(("there", len(lines) - 1))
        loose.append(len(lines) - 1)
        if k > 0 and random.random() < 0.3:
            # A part of what stands below the line `there`, outside of it.
            loose.append(random.randrange(len(lines) - 1 - len(part), len(lines) - 1))
    random.shuffle(loose)
    while len(loose) > 1:
        lines.append(("both", loose.pop(), loose.pop()))
        if random.random() < 0.4:
            lines.append(("not", len(lines) - 1))
        loose.append(len(lines) - 1)
    return tuple(lines)


def limited(lines):
    """Lines whose divisors are at most 3."""
    return [line[:2] + (3, line[3] % 3) if line[0] == "rest" and line[2] > 3 else line for line in lines]


def random_row(random, most):
    """A row of at most so many True and False, not empty."""
    return tuple([random.random() < 0.5 for _ in range(random.randint(1, most))])


def random_pattern(random):
    """A pattern whose parts have at most 6 items and whose start is from -30 to 30, in any way of writing."""
    middle = random_row(random, 6) if random.random() < 0.7 else ()
    return random_row(random, 6), random.randint(-30, 30), middle, random_row(random, 6)


def holds_in(pattern, number):
    """Whether a number is in a pattern, word by word as the document says."""
    left, start, middle, right = pattern
    if number < start:
        return left[number % len(left)]
    if number < start + len(middle):
        return middle[number - start]
    return right[number % len(right)]


def is_period(row, period):
    """Whether a row repeats by a period that divides its length."""
    return all(row[k] == row[k % period] for k in range(len(row)))


def fault_of(pattern):
    """Why a pattern is not written in its one way, or None."""
    left, start, middle, right = pattern
    for row in (left, right):
        if any(len(row) % period == 0 and is_period(row, period) for period in range(1, len(row))):
            return "a row is too long"
    if left == right:
        same = all(there == left[(start + k) % len(left)] for k, there in enumerate(middle))
        if same:
            return None if start == 0 and middle == () else "what repeats everywhere has a start or a middle"
    if middle:
        if middle[0] == left[start % len(left)]:
            return "the first number of middle is as left says"
        last = start + len(middle) - 1
        return "the last number of middle is as right says" if middle[-1] == right[last % len(right)] else None
    # Without a middle, start is one more than the greatest number that is not as right says.
    return "start is too late" if left[(start - 1) % len(left)] == right[(start - 1) % len(right)] else None


def widened(random, lines, count):
    """Lines with factors for numbers that are not there: they count for nothing."""
    found = []
    for line in lines:
        if line[0] in ("below", "rest") and random.random() < 0.3:
            line = (line[0], wider(random, line[1], count)) + line[2:]
        found.append(line)
    return tuple(found)


def wider(random, factors, count):
    """Factors with further ones for numbers that are not there."""
    padded = tuple(factors[:count]) + (0,) * (count - len(factors))
    return padded + tuple([random.choice((-2, -1, 1, 2)) for _ in range(random.randint(1, 2))])


def widened_function(random, function, count):
    """A function with factors for numbers that are not there."""
    cases = []
    for condition, factors, constant, divisor in function[1]:
        factors = wider(random, factors, count) if random.random() < 0.3 else factors
        cases.append((widened(random, condition, count), factors, constant, divisor))
    return function[0], tuple(cases)


def some_sum(random, count):
    """A sum of given numbers as small sayings have them, also with fewer factors, or with more than there are numbers."""
    size = random.choice([count, count, count + 2, random.randint(0, count)])
    return tuple([random.randint(-2, 2) for _ in range(size)]), random.randint(-20, 20)


def sum_worth(total, values):
    """The value of a sum: factors of numbers that are not there count for nothing."""
    return sum(factor * value for factor, value in zip(total[0], values)) + total[1]


def some_given(random, count, most=12):
    """Values of given numbers."""
    return tuple([random.randint(-most, most) for _ in range(count)])


def first_solution(holds, given, bound, step):
    """The first solution from a bound on, upwards (step 1) or downwards (step -1), or None.

    The range is enough for small sayings of at most two given numbers from -12 to 12.
    """
    for y in range(bound, bound + 200 * step, step):
        if holds(*given, y):
            return y
    return None


def plain_value(function, given):
    """The value of a function, word by word as the document says."""
    worths = []
    for condition, factors, constant, divisor in function[1]:
        if trial(condition, len(given), {})(*given):
            worths.append(sum_worth((factors, constant), given) // divisor)
    if not worths:
        return None
    return min(worths) if function[0] == "least" else max(worths)


def fault_of_cases(function, given, is_solution):
    """Why the cases of a function that hold for values are not right, or None."""
    for condition, factors, constant, divisor in function[1]:
        if any(line[0] == "there" for line in condition):
            return "a condition is not plain"
        if not isinstance(divisor, int) or divisor < 1:
            return "a divisor is less than 1"
        if trial(condition, len(given), {})(*given):
            total = sum_worth((factors, constant), given)
            if total % divisor != 0:
                return "a sum leaves a remainder"
            if not is_solution(total // divisor):
                return "a case gives what is no solution"
    return None


def some_function(random, count, most=19):
    """A function that is made of a small saying of at most two comparisons or remainders."""
    while True:
        way = least_from if random.random() < 0.5 else greatest_to
        function = way(tuple(small(random, count, 1, 2)), count, some_sum(random, count))
        if len(function[1]) <= most:
            return widened_function(random, function, count)
