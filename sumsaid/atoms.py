"""Comparisons and remainders of sums, each written in one way."""

from math import gcd

MOST_UNITS = 64


def trimmed(factors):
    """The factors as a tuple without zeros at its end."""
    end = len(factors)
    while end > 0 and factors[end - 1] == 0:
        end -= 1
    return tuple(factors[:end])


def factor_at(factors, at):
    """The factor of a number, 0 where none is written."""
    return factors[at] if at < len(factors) else 0


def without_factor(factors, at):
    """The factors with that of one number set to 0."""
    return trimmed([0 if k == at else factor for k, factor in enumerate(factors)])


def combined(first, times, second, by):
    """The factors of `times` times the first sum and `by` times the second one."""
    size = max(len(first), len(second))
    return trimmed([times * factor_at(first, k) + by * factor_at(second, k) for k in range(size)])


def common_divisor(factors, start):
    """The greatest integer that divides `start` and all factors."""
    divisor = start
    for factor in factors:
        divisor = gcd(divisor, factor)
    return divisor


def first_factor(factors):
    """The first factor that is not 0, or 0."""
    for factor in factors:
        if factor != 0:
            return factor
    return 0


def neat_below(factors, bound):
    """(factors, bound, turned) of `sum < bound`: if turned, the comparison that is returned says the opposite.

    The factors have no common divisor, and the first one that is not 0 is positive.
    """
    factors = trimmed(factors)
    divisor = common_divisor(factors, 0)
    if divisor == 0:
        return (), bound, False
    bound = -(-bound // divisor)
    if first_factor(factors) > 0:
        return tuple([factor // divisor for factor in factors]), bound, False
    return tuple([-factor // divisor for factor in factors]), 1 - bound, True


def inverse_of(number, modulus):
    """The number from 0 to modulus - 1 whose product with `number` leaves 1; they have no common divisor."""
    low, high = number % modulus, modulus
    factor, other = 1, 0
    while low != 0:
        times = high // low
        low, high = high - times * low, low
        factor, other = other - times * factor, factor
    return other % modulus


def turned_by_unit(factors, modulus):
    """The least factors that say the same of remainders, and the number by which they were multiplied.

    The first factor that is not 0 divides the modulus then.
    """
    lead = first_factor(factors)
    divisor = gcd(lead, modulus)
    base = modulus // divisor
    unit = inverse_of(lead // divisor, base)
    found = []
    tried = 0
    # There may be as many units as the divisor is great; but a few are enough to go on with.
    while tried < divisor and (tried < MOST_UNITS or len(found) == 0):
        if gcd(unit, modulus) == 1:
            found.append((tuple([factor * unit % modulus for factor in factors]), unit))
        unit += base
        tried += 1
    return min(found)


def prime_divisors(number):
    """The primes that divide a number of at least 1, ascending."""
    primes = []
    divisor = 2
    while divisor * divisor <= number:
        if number % divisor == 0:
            primes.append(divisor)
            while number % divisor == 0:
                number //= divisor
        divisor += 1
    if number > 1:
        primes.append(number)
    return primes


def shortest_modulus(modulus, residues):
    """The least divisor of the modulus by which the residues (ascending) repeat."""
    if len(residues) == 0 or len(residues) == modulus:
        return 1
    # Residues that repeat p times are a multiple of p many: the modulus itself need not be taken apart.
    for prime in prime_divisors(gcd(len(residues), modulus)):
        while modulus % prime == 0 and repeats_by(modulus, residues, modulus // prime):
            modulus //= prime
            residues = [residue for residue in residues if residue < modulus]
    return modulus


def repeats_by(modulus, residues, step):
    """Whether with each residue the one that is `step` further on is there."""
    known = set(residues)
    return all([(residue + step) % modulus in known for residue in residues])


def smallest_rest(factors, modulus, residues):
    """The same as `sum leaves one of the residues`, with the smallest modulus."""
    while True:
        factors = trimmed([factor % modulus for factor in factors])
        divisor = common_divisor(factors, modulus)
        factors = tuple([factor // divisor for factor in factors])
        modulus //= divisor
        residues = [residue // divisor for residue in residues if residue % divisor == 0]
        least = shortest_modulus(modulus, residues)
        if least == modulus:
            return factors, modulus, residues
        residues = [residue for residue in residues if residue < least]
        modulus = least


def neat_rest(factors, modulus, residues):
    """(factors, modulus, residues, turned) of `sum leaves one of the residues`; if turned, this says the opposite.

    What is always said has the modulus 1 and the residue 0. Otherwise at most half of all residues are
    there, and the first factor that is not 0 divides the modulus, so that equal ones are written alike.
    """
    factors, modulus, residues = smallest_rest(factors, modulus, residues)
    if modulus == 1:
        return (), 1, (0,), len(residues) == 0
    factors, unit = turned_by_unit(factors, modulus)
    residues = sorted([residue * unit % modulus for residue in residues])
    excess = 2 * len(residues) - modulus
    if excess < 0 or (excess == 0 and residues[0] == 0):
        return factors, modulus, tuple(residues), False
    known = set(residues)
    return factors, modulus, tuple([k for k in range(modulus) if k not in known]), True
