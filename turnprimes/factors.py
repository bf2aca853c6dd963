"""Primes of integers, numbers with primes as norms, and rows of such numbers."""

from math import isqrt

from turnprimes.common import left_common
from turnprimes.dividing import left_quotient
from turnprimes.errors import InvalidQuestion
from turnprimes.numbers import (
    canonical, check_not_zero, check_number, conjugate, content, is_primitive, is_unit, norm, product, product_of,
    unit_behind,
)

# All canonical numbers are told for primes up to this one.
MOST_PRIME = 1000

# Integers are parted into primes up to this one.
MOST = 10 ** 12

_ONE = (2, 0, 0, 0)

# The least integer that is no prime and passes for all of these is 2152302898747, above the bound.
_BASES = (2, 3, 5, 7, 11)


def whole_primes(value):
    """Return the primes of an integer, ascending, each with its power."""
    if not 1 <= value <= MOST:
        raise InvalidQuestion("the integer is below 1 or above 10 ** 12")
    found = []
    rest, divisor = value, 2
    while rest > 1:
        # The rest is often a prime, for which no divisors need to be tried.
        if is_prime(rest):
            divisor = rest
        while rest % divisor != 0:
            divisor += 1 if divisor == 2 else 2
        power = 0
        while rest % divisor == 0:
            rest //= divisor
            power += 1
        found.append((divisor, power))
    return found


def is_prime(value):
    """Tell whether an integer from 1 to 10 ** 12 is a prime; False for all others."""
    if not 2 <= value <= MOST:
        return False
    for base in _BASES:
        if value % base == 0:
            return value == base
    return all([_passes(value, base) for base in _BASES])


def primes_of(prime):
    """Return the canonical numbers with a prime up to 1000 as norm, ascending."""
    _check_prime(prime)
    numbers = [number for parts in _leading_parts(4 * prime) for number in _with_signs(parts)]
    return sorted([number for number in numbers if canonical(number) == number])


def left_primes(number, prime):
    """Return the canonical numbers with a prime up to 1000 as norm that divide a number on the left, ascending."""
    check_not_zero(number)
    _check_prime(prime)
    if norm(number) % prime != 0:
        return []
    if content(number) % prime == 0:
        return primes_of(prime)
    return [left_common(number, (2 * prime, 0, 0, 0))]


def row_of(number, primes):
    """Return the row of canonical numbers with the primes as norms, in their order, and the unit behind it."""
    check_primes_of(number, primes)
    if not is_primitive(number):
        raise InvalidQuestion("the number is not primitive")
    return row_by(number, primes)


def number_by(row, unit):
    """Return the product of some numbers in order and a unit behind them."""
    made = product_of(row)
    if not is_unit(unit):
        raise InvalidQuestion("this is no unit")
    return product(made, unit)


def row_of_factors(factors):
    """Return the canonical row of a row, and the unit that is left behind it."""
    check_row(factors)
    row = []
    unit = _ONE
    for factor in factors:
        led = product(unit, factor)
        row.append(canonical(led))
        unit = unit_behind(led)
    return (row, unit)


def same_factoring(one, other):
    """Tell whether two rows become one another by moving units."""
    check_row([*one, *other])
    return row_of_factors(one) == row_of_factors(other)


def moved(factors, place, unit):
    """Return the row with a unit moved from the number at a place, counted from 1, to the next one."""
    # What is no number, the unit too, comes ahead of a norm that is no prime.
    check_numbers([*factors, unit])
    check_row(factors)
    if not is_unit(unit):
        raise InvalidQuestion("this is no unit")
    if not 1 <= place < len(factors):
        raise InvalidQuestion("no number with a next one stands at this place")
    found = [tuple(factor) for factor in factors]
    found[place - 1] = product(found[place - 1], unit)
    found[place] = product(conjugate(unit), found[place])
    return found


def row_by(number, primes):
    """Return the row of a primitive number for the primes of its norm in some order, and the unit behind it."""
    row = []
    rest = tuple(number)
    for prime in primes:
        row.append(left_common(rest, (2 * prime, 0, 0, 0)))
        rest = left_quotient(rest, row[-1])
    return (row, rest)


def check_numbers(numbers):
    """Raise InvalidNumber for what is no number in a list."""
    for number in numbers:
        check_number(number)


def check_row(row):
    """Raise InvalidNumber for what is no number in a list, then InvalidQuestion for a norm that is no prime."""
    check_numbers(row)
    if not all([is_prime(norm(number)) for number in row]):
        raise InvalidQuestion("the norm of a number is no prime")


def primes_of_norm(number):
    """Return the primes of the norm of a number, ascending, each as often as it divides it."""
    return [prime for prime, power in whole_primes(norm(number)) for _ in range(power)]


def check_primes_of(number, primes):
    """Raise InvalidNumber or InvalidQuestion if the primes are not those of the norm of the number in some order."""
    check_not_zero(number)
    if sorted(primes) != primes_of_norm(number):
        raise InvalidQuestion("these are not the primes of the norm")


def check_odd_prime(value, most):
    """Raise InvalidQuestion if an integer is no odd prime up to another one, which is at most 10 ** 12."""
    if value % 2 == 0 or value > most or not is_prime(value):
        raise InvalidQuestion("this is no odd prime up to the bound")


def power_in(value, prime):
    """Return how many times a prime divides an integer other than 0."""
    power = 0
    while value % prime == 0:
        value //= prime
        power += 1
    return power


def power_modulo(base, exponent, modulus):
    """Return a power of an integer modulo another one."""
    found = 1
    while exponent:
        if exponent % 2:
            found = found * base % modulus
        base = base * base % modulus
        exponent //= 2
    return found


def _check_prime(prime):
    if prime > MOST_PRIME or not is_prime(prime):
        raise InvalidQuestion("this is no prime up to 1000")


def _leading_parts(total):
    """Return the rows of four integers from 0 on with a sum of squares, the first not below the sum of the others.

    The doubled parts of canonical numbers are so, but for signs: the first part of an associate is one of the four
    or half of their sum, with any signs, and the first part of the canonical one is not below any of these.
    """
    found = []
    for a in range(isqrt(total) + 1):
        for b in range(a % 2, a + 1, 2):
            for c in range(a % 2, a - b + 1, 2):
                rest = total - a * a - b * b - c * c
                if rest < 0:
                    break
                d = isqrt(rest)
                if d * d == rest and b + c + d <= a:
                    found.append((a, b, c, d))
    return found


def _with_signs(parts):
    """Return the rows that are the parts with any signs behind the first one, each once."""
    a, b, c, d = parts
    return sorted({(a, x, y, z) for x in (b, -b) for y in (c, -c) for z in (d, -d)})


def _passes(value, base):
    """Tell whether an odd integer passes the test of primes with the base."""
    exponent, many = value - 1, 0
    while exponent % 2 == 0:
        exponent //= 2
        many += 1
    power = power_modulo(base, exponent, value)
    if power == 1:
        return True
    # Modulo a prime, only 1 and its opposite have the square 1, so the opposite stands ahead of the first 1.
    for _ in range(many):
        if power == value - 1:
            return True
        power = power * power % value
    return False
