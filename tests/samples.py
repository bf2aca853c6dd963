"""What several tests use: sample numbers, and a second way to multiply."""

import random
from fractions import Fraction
from itertools import product as every
from math import isqrt

ZERO = (0, 0, 0, 0)
ONE = (2, 0, 0, 0)

# No numbers: odd and even doubled parts side by side, and other lengths.
NO_NUMBERS = [
    (1, 2, 3, 4),
    (1, 0, 0, 0),
    (0, 0, 0, 1),
    (2, 2, 2, 1),
    (1, 1, 1, 2),
    (1, 2, 1, 1),
    (1, 1, 2, 1),
    (-1, 0, 0, 0),
    (10 ** 60, 0, 0, 10 ** 60 + 1),
    (),
    (2,),
    (1, 1, 1),
    (2, 0, 0),
    (0, 0, 0),
    (2, 0, 0, 0, 0),
    (1, 1, 1, 1, 1),
    (0, 0, 0, 0, 0),
]

# The norm is a prime above 10 ** 12, which counts as none.
GREAT_PRIME = (2 * 10 ** 6, 12, 10, 0)
NO_PRIME_NORMS = [ZERO, ONE, (1, 1, 1, 1), (4, 0, 0, 0), (6, 0, 0, 0), (4, 4, 2, 0), (6, 2, 2, 2), GREAT_PRIME]

# The rules of point 3 for the signs: what two of 1, i, j, k make, as a sign and one of them.
RULES = {
    ("1", "1"): (1, "1"), ("1", "i"): (1, "i"), ("1", "j"): (1, "j"), ("1", "k"): (1, "k"),
    ("i", "1"): (1, "i"), ("i", "i"): (-1, "1"), ("i", "j"): (1, "k"), ("i", "k"): (-1, "j"),
    ("j", "1"): (1, "j"), ("j", "i"): (-1, "k"), ("j", "j"): (-1, "1"), ("j", "k"): (1, "i"),
    ("k", "1"): (1, "k"), ("k", "i"): (1, "j"), ("k", "j"): (-1, "i"), ("k", "k"): (-1, "1"),
}


def small_numbers(most):
    """All numbers whose doubled parts lie between -most and most."""
    rows = every(range(-most, most + 1), repeat=4)
    return [row for row in rows if len({part % 2 for part in row}) == 1]


def great_numbers(digits, many):
    """Some numbers whose doubled parts have about so many digits."""
    source = random.Random(7 * digits + many)
    numbers = []
    for at in range(many):
        parts = [source.randrange(-10 ** digits, 10 ** digits) for _ in range(4)]
        numbers.append(tuple([2 * part + at % 2 for part in parts]))
    return numbers


def sample_numbers():
    """Some numbers of all kinds, 0 among them."""
    chosen = small_numbers(3)[::5] + [ZERO, ONE, (2, 2, 2, 2), (4, 4, 0, 0), (6, 6, 6, 6), (3, 3, 3, -9)]
    return chosen + great_numbers(2, 10) + great_numbers(40, 6)


def product_by_rules(one, other):
    """The product of two numbers, by fractions as parts and the rules for i, j and k."""
    names = "1ijk"
    parts = dict.fromkeys(names, Fraction(0))
    for left, x in zip(names, one):
        for right, y in zip(names, other):
            sign, name = RULES[left, right]
            parts[name] += sign * Fraction(x, 2) * Fraction(y, 2)
    doubled = [2 * parts[name] for name in names]
    assert all(part.denominator == 1 for part in doubled)
    return tuple([int(part) for part in doubled])


def great_primes_below(most, many):
    """The greatest primes below an integer, found by trying all divisors."""
    found = []
    value = most
    while len(found) < many:
        value -= 1
        if value == 2 or value % 2 and all(value % divisor for divisor in range(3, isqrt(value) + 1, 2)):
            found.append(value)
    return found


def number_of_norm(value):
    """A whole number with the norm, by trying the greatest squares first."""
    a = isqrt(value)
    while True:
        rest = value - a * a
        for b in range(isqrt(rest) + 1):
            for c in range(min(b, isqrt(rest - b * b)) + 1):
                d = isqrt(rest - b * b - c * c)
                if d * d == rest - b * b - c * c:
                    return (2 * a, 2 * b, 2 * c, 2 * d)
        a -= 1


def primes_in(number):
    """The primes of the norm of a number, ascending, each as often as it divides it."""
    found = []
    rest, divisor = sum([part * part for part in number]) // 4, 2
    while rest > 1:
        while rest % divisor == 0:
            rest //= divisor
            found.append(divisor)
        divisor += 1
    return found
