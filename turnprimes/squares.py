"""Sums of four squares."""

from math import isqrt

from turnprimes.errors import InvalidQuestion, TooMany
from turnprimes.lists import number_count
from turnprimes.numbers import associates, is_whole, of_integers, product

_MOST_GREATEST = 10 ** 9
_MOST_ALL = 10 ** 4


def square_count(value):
    """Return the number of the sums of the integer, in all orders and with all signs."""
    if value == 0:
        return 1
    # Sums are the parts of whole numbers. All numbers of an even norm are whole, and a third of those of an odd one.
    return number_count(value) if value % 2 == 0 else number_count(value) // 3


def greatest_squares(value):
    """Return the greatest falling tuple of the integer."""
    _check_bounds(value, _MOST_GREATEST)
    # A sum of an integer that 8 divides is even, twice a sum of a quarter; without this the search could be long.
    rest, factor = value, 1
    while rest > 0 and rest % 8 == 0:
        rest //= 4
        factor *= 2
    return tuple([factor * root for root in _greatest(rest, isqrt(rest), 4)])


def all_squares(value, *, limit=2000):
    """Return the list of all falling tuples of the integer, the greatest first."""
    _check_bounds(value, _MOST_ALL)
    found = _all(value, isqrt(value), 4)
    if len(found) > limit:
        raise TooMany(limit)
    return found


def squares_of(number):
    """Return the greatest of the falling tuples that come of the whole associates of a number."""
    return max([_falling(whole) for whole in associates(number) if is_whole(whole)])


def multiplied(one, other):
    """Return the falling tuple of the product of the whole numbers whose parts are two rows of four integers."""
    return _falling(product(of_integers(one), of_integers(other)))


def _check_bounds(value, most):
    if not 0 <= value <= most:
        raise InvalidQuestion("the integer is below 0 or above the bound")


def _greatest(value, most, many):
    """Return the greatest falling tuple of so many integers up to one whose squares make the value, or None."""
    if many == 0:
        return ()
    for first in _firsts(value, most, many):
        rest = _greatest(value - first * first, first, many - 1)
        if rest is not None:
            return (first, *rest)
    return None


def _all(value, most, many):
    """Return all falling tuples of so many integers up to one whose squares make the value, the greatest first."""
    if many == 0:
        return [()]
    firsts = _firsts(value, most, many)
    return [(first, *rest) for first in firsts for rest in _all(value - first * first, first, many - 1)]


def _firsts(value, most, many):
    """Return what can come first, falling, in a falling tuple of so many integers up to one with this sum of squares.

    The square of the first one is at most the value, and so many times it is at least the value. For a single
    integer this leaves the root alone, if there is one.
    """
    least = isqrt(value // many)
    if least * least * many < value:
        least += 1
    return list(range(min(isqrt(value), most), least - 1, -1))


def _falling(number):
    return tuple(sorted([abs(part) // 2 for part in number], reverse=True))
