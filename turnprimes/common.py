"""Greatest common divisors and least common multiples, on both sides."""

from turnprimes.dividing import divided_left, is_left_divisor, left_quotient
from turnprimes.errors import InvalidQuestion
from turnprimes.numbers import (
    canonical, check_not_zero, check_number, conjugate, less, norm, product, unit_behind, units,
)

_ONE = (2, 0, 0, 0)
_ZERO = (0, 0, 0, 0)


def left_common(one, other):
    """Return the canonical greatest common left divisor of two numbers."""
    _check_pair(one, other)
    while any(other):
        _, remainder = divided_left(one, other)
        one, other = other, remainder
    return canonical(one)


def left_sum(one, other):
    """Return the greatest common left divisor, and two numbers behind both that make it."""
    _check_pair(one, other)
    found, _ = _last_rows(one, other)
    # The unit that leads from what was found to its canonical associate.
    unit = conjugate(unit_behind(found[0]))
    return tuple([product(number, unit) for number in found])


def right_common(one, other):
    """Return the greatest common right divisor of two numbers, the greatest with a unit ahead."""
    return canonical_ahead(conjugate(left_common(conjugate(one), conjugate(other))))


def right_sum(one, other):
    """Return the greatest common right divisor, and two numbers ahead of both that make it."""
    _check_pair(one, other)
    turned_over, _ = _last_rows(conjugate(one), conjugate(other))
    found = [conjugate(number) for number in turned_over]
    unit = _leading_unit(found[0])
    return tuple([product(unit, number) for number in found])


def canonical_ahead(number):
    """Return the greatest product of a unit and the number, the unit ahead."""
    check_not_zero(number)
    return product(_leading_unit(number), number)


def least_multiple(one, other):
    """Return the canonical least common multiple of two numbers, both ahead."""
    check_number(one)
    check_number(other)
    if not any(one) or not any(other):
        raise InvalidQuestion("one of the numbers is 0")
    _, (_, behind, _) = _last_rows(one, other)
    return canonical(product(one, behind))


def are_apart(one, other):
    """Tell whether the greatest common left divisor of two numbers has the norm 1."""
    return norm(left_common(one, other)) == 1


def common_of(numbers):
    """Return the canonical greatest common left divisor of the numbers of a list."""
    for number in numbers:
        check_number(number)
    found = _ZERO
    for number in numbers:
        if any(number):
            found = left_common(found, number)
    if not any(found):
        raise InvalidQuestion("all numbers are 0")
    return found


def is_sum(one, other, number):
    """Tell whether the number is made of both, with some numbers behind them."""
    check_number(number)
    return is_left_divisor(left_common(one, other), number)


def both_sums(one, other, number):
    """Return the numbers behind both that make the third number, or None if there are none."""
    check_number(number)
    common, behind_one, behind_other = left_sum(one, other)
    quotient = left_quotient(number, common)
    if quotient is None:
        return None
    return (product(behind_one, quotient), product(behind_other, quotient))


def _check_pair(one, other):
    check_number(one)
    check_number(other)
    if not any(one) and not any(other):
        raise InvalidQuestion("both numbers are 0")


def _last_rows(one, other):
    """Return the last two rows of the division of two numbers by one another.

    Each row is a number and the two numbers behind the first one and the other one that make it. That of the
    first row is a greatest common left divisor. That of the second row is 0, so the first number with the one
    behind it, and the other one with the opposite of its, are one number: a least common multiple.
    """
    last, coming = (one, _ONE, _ZERO), (other, _ZERO, _ONE)
    while any(coming[0]):
        quotient, _ = divided_left(last[0], coming[0])
        rest = [less(number, product(own, quotient)) for number, own in zip(last, coming)]
        last, coming = coming, rest
    return (last, coming)


def _leading_unit(number):
    _, leading = max([(product(unit, number), unit) for unit in units()])
    return leading
