"""Division with a quotient and a remainder, on both sides."""

from turnprimes.errors import InvalidQuestion
from turnprimes.numbers import check_number, conjugate, less, norm, product


def divided_left(number, divisor):
    """Return the quotient behind the divisor that is nearest to the number, and the remainder."""
    _check(number, divisor)
    quotient = _nearest(product(conjugate(divisor), number), norm(divisor))
    return (quotient, less(number, product(divisor, quotient)))


def divided_right(number, divisor):
    """Return the quotient ahead of the divisor that is nearest to the number, and the remainder."""
    _check(number, divisor)
    quotient = _nearest(product(number, conjugate(divisor)), norm(divisor))
    return (quotient, less(number, product(quotient, divisor)))


def left_quotient(number, divisor):
    """Return the number that gives the number behind the divisor, or None if there is none."""
    quotient, remainder = divided_left(number, divisor)
    return None if any(remainder) else quotient


def right_quotient(number, divisor):
    """Return the number that gives the number ahead of the divisor, or None if there is none."""
    quotient, remainder = divided_right(number, divisor)
    return None if any(remainder) else quotient


def is_left_divisor(divisor, number):
    """Tell whether the number is the divisor times some number."""
    return left_quotient(number, divisor) is not None


def is_right_divisor(divisor, number):
    """Tell whether the number is some number times the divisor."""
    return right_quotient(number, divisor) is not None


def _check(number, divisor):
    check_number(number)
    check_number(divisor)
    if not any(divisor):
        raise InvalidQuestion("the divisor is 0")


def _nearest(parts, divisor):
    """Return the number nearest to four doubled parts divided by an integer above 0, of several ones the greatest."""
    # A half between two even or two odd integers goes up, so each of both is the greatest nearest one of its kind.
    even = tuple([2 * ((part + divisor) // (2 * divisor)) for part in parts])
    odd = tuple([2 * (part // (2 * divisor)) + 1 for part in parts])
    even_far = _distance(parts, even, divisor)
    odd_far = _distance(parts, odd, divisor)
    if even_far == odd_far:
        return max(even, odd)
    return even if even_far < odd_far else odd


def _distance(parts, number, divisor):
    return sum([(part - own * divisor) * (part - own * divisor) for part, own in zip(parts, number)])
