"""Numbers modulo an odd prime, as tables of two by two."""

from turnprimes.common import left_common
from turnprimes.errors import InvalidQuestion
from turnprimes.factors import check_numbers, check_odd_prime, power_modulo
from turnprimes.numbers import check_not_zero, check_number, content, norm, of_integers
from turnprimes.turns import is_row

_MOST_PRIME = 10 ** 4


def root_pair(prime):
    """Return the first pair of integers for the tables of the prime."""
    roots = _least_roots(prime)
    one = 0
    while _needed(prime, one) not in roots:
        one += 1
    return (one, roots[_needed(prime, one)])


def root_pairs(prime):
    """Return all pairs of integers from 0 on below the prime whose squares and 1 it divides together, ascending."""
    roots = _least_roots(prime)
    found = []
    for one in range(prime):
        other = roots.get(_needed(prime, one))
        if other is not None:
            found.append((one, other))
            if other > 0:
                found.append((one, prime - other))
    return found


def table_of(number, prime):
    """Return the table of the number."""
    check_number(number)
    x, y = root_pair(prime)
    half = (prime + 1) // 2
    a, b, c, d = [half * part for part in number]
    return _modulo(((a + b * x + d * y, b * y - c - d * x), (b * y + c - d * x, a - b * x - d * y)), prime)


def table_product(one, other, prime):
    """Return the product of two tables."""
    _check_table(one, prime)
    _check_table(other, prime)
    (a, b), (c, d) = one
    (e, f), (g, h) = other
    return _modulo(((a * e + b * g, a * f + b * h), (c * e + d * g, c * f + d * h)), prime)


def determinant(table, prime):
    """Return the determinant of the table."""
    _check_table(table, prime)
    (a, b), (c, d) = table
    return (a * d - b * c) % prime


def number_of_table(table, prime):
    """Return the number with the table whose parts are integers from 0 on below the prime."""
    _check_table(table, prime)
    (e, f), (g, h) = table
    x, y = root_pair(prime)
    half = (prime + 1) // 2
    # These are b * x + d * y and b * y - d * x for the parts b and d; as x * x + y * y is -1, b and d come of both.
    one, other = half * (e - h), half * (f + g)
    parts = (half * (e + h), -one * x - other * y, half * (g - f), other * x - one * y)
    return of_integers([part % prime for part in parts])


def lines(prime):
    """Return all lines of the prime."""
    check_odd_prime(prime, _MOST_PRIME)
    return [(0, 1)] + [(1, slope) for slope in range(prime)]


def line_of(number, prime):
    """Return the line of the number, or None if the prime does not divide its norm or divides the number."""
    check_not_zero(number)
    table = table_of(number, prime)
    if norm(number) % prime != 0:
        return None
    for u, v in zip(*table):
        if u != 0:
            return (1, v * power_modulo(u, prime - 2, prime) % prime)
        if v != 0:
            return (0, 1)
    return None


def prime_of_line(prime, line):
    """Return the canonical number with the prime as norm whose line this is."""
    check_odd_prime(prime, _MOST_PRIME)
    if not _is_line(line, prime):
        raise InvalidQuestion("this is no line")
    s, t = line
    # This number has the line, and what divides it on the left and is not 1 has the same.
    number = number_of_table(((s, 0), (t, 0)), prime)
    return left_common(number, (2 * prime, 0, 0, 0))


def divides_by_lines(factor, number):
    """Tell whether a number with an odd prime as norm divides another one on the left, by their lines."""
    check_numbers([factor, number])
    prime = norm(factor)
    check_odd_prime(prime, _MOST_PRIME)
    check_not_zero(number)
    if content(number) % prime == 0:
        return True
    return line_of(number, prime) == line_of(factor, prime)


def _least_roots(prime):
    """Return the least root of each square modulo the prime."""
    check_odd_prime(prime, _MOST_PRIME)
    return {root * root % prime: root for root in range(prime // 2 + 1)}


def _needed(prime, one):
    """Return the square of the second integer of a pair modulo the prime, behind the first one."""
    return (-1 - one * one) % prime


def _modulo(table, prime):
    return tuple([tuple([part % prime for part in row]) for row in table])


def _check_table(table, prime):
    check_odd_prime(prime, _MOST_PRIME)
    if len(table) != 2 or not all([is_row(row, 2) for row in table]):
        raise InvalidQuestion("a table has two lines of two integers")
    if not all([0 <= part < prime for row in table for part in row]):
        raise InvalidQuestion("an integer of the table is below 0, or not below the prime")


def _is_line(line, prime):
    if not is_row(line, 2):
        return False
    s, t = line
    return (s == 0 and t == 1) or (s == 1 and 0 <= t < prime)
