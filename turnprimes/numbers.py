"""Numbers of four parts, told by their doubled parts."""

from math import gcd

from turnprimes.errors import InvalidNumber, InvalidQuestion

_ONE = (2, 0, 0, 0)

_UNITS = (
    (-2, 0, 0, 0),
    (-1, -1, -1, -1),
    (-1, -1, -1, 1),
    (-1, -1, 1, -1),
    (-1, -1, 1, 1),
    (-1, 1, -1, -1),
    (-1, 1, -1, 1),
    (-1, 1, 1, -1),
    (-1, 1, 1, 1),
    (0, -2, 0, 0),
    (0, 0, -2, 0),
    (0, 0, 0, -2),
    (0, 0, 0, 2),
    (0, 0, 2, 0),
    (0, 2, 0, 0),
    (1, -1, -1, -1),
    (1, -1, -1, 1),
    (1, -1, 1, -1),
    (1, -1, 1, 1),
    (1, 1, -1, -1),
    (1, 1, -1, 1),
    (1, 1, 1, -1),
    (1, 1, 1, 1),
    (2, 0, 0, 0),
)


def is_number(number):
    """Tell whether the integers are the doubled parts of a number."""
    return len(number) == 4 and len({part % 2 for part in number}) == 1


def check_number(number):
    """Raise InvalidNumber if the integers are not the doubled parts of a number."""
    if not is_number(number):
        raise InvalidNumber("no number has these doubled parts")


def check_not_zero(number):
    """Raise InvalidNumber for what is no number, and InvalidQuestion for 0."""
    check_number(number)
    if not any(number):
        raise InvalidQuestion("the number is 0")


def is_whole(number):
    """Tell whether the parts of the number are integers."""
    check_number(number)
    return number[0] % 2 == 0


def of_integers(integers):
    """Return the number whose parts are the four integers."""
    if len(integers) != 4:
        raise InvalidNumber("a number has four parts")
    return tuple([2 * part for part in integers])


def opposite(number):
    """Return the number with the other sign in all parts."""
    check_number(number)
    return tuple([-part for part in number])


def conjugate(number):
    """Return the number with the other sign in the last three parts."""
    check_number(number)
    return _conjugate(number)


def norm(number):
    """Return the sum of the squares of the parts."""
    check_number(number)
    return sum([part * part for part in number]) // 4


def added(one, other):
    """Return the sum of two numbers."""
    _check_both(one, other)
    return tuple([part + more for part, more in zip(one, other)])


def less(one, other):
    """Return the first number less the second one."""
    _check_both(one, other)
    return tuple([part - off for part, off in zip(one, other)])


def times(number, integer):
    """Return the number times an integer."""
    check_number(number)
    return tuple([part * integer for part in number])


def product(one, other):
    """Return the product of two numbers in this order."""
    _check_both(one, other)
    return _product(one, other)


def product_of(numbers):
    """Return the product of the numbers of a list in their order."""
    for number in numbers:
        check_number(number)
    result = _ONE
    for number in numbers:
        result = _product(result, number)
    return result


def units():
    """Return the list of the 24 units, ascending."""
    return list(_UNITS)


def is_unit(number):
    """Tell whether the norm of the number is 1."""
    return norm(number) == 1


def associates(number):
    """Return the list of the products of the number with a unit behind it, ascending."""
    check_not_zero(number)
    return sorted([_product(number, unit) for unit in _UNITS])


def canonical(number):
    """Return the greatest associate of the number."""
    check_not_zero(number)
    greatest, _ = _greatest_associate(number)
    return greatest


def unit_behind(number):
    """Return the unit with the canonical associate ahead of which it is the number."""
    check_not_zero(number)
    _, leading = _greatest_associate(number)
    # The conjugate of a unit takes back what the unit does.
    return _conjugate(leading)


def are_associates(one, other):
    """Tell whether two numbers have the same associates."""
    _check_both(one, other)
    return canonical(one) == canonical(other)


def content(number):
    """Return the greatest integer that divides the number."""
    check_not_zero(number)
    a, b, c, d = number
    common = gcd(a, b, c, d)
    if is_number([part // common for part in number]):
        return common
    # Odd and even quotients side by side are no number, but their doubles are; common is even then.
    return common // 2


def primitive_part(number):
    """Return the number divided by its content."""
    divisor = content(number)
    return tuple([part // divisor for part in number])


def is_primitive(number):
    """Tell whether 1 alone divides the number."""
    return content(number) == 1


def _check_both(one, other):
    check_number(one)
    check_number(other)


def _greatest_associate(number):
    """Return the greatest associate of the number, and the unit behind the number that makes it."""
    a, b, c, d = number
    # The first parts alone leave few units, often one, so few whole products are needed.
    firsts = [a * e - b * f - c * g - d * h for e, f, g, h in _UNITS]
    most = max(firsts)
    return max([(_product(number, unit), unit) for unit, first in zip(_UNITS, firsts) if first == most])


def _conjugate(number):
    a, b, c, d = number
    return (a, -b, -c, -d)


def _product(one, other):
    a, b, c, d = one
    e, f, g, h = other
    return (
        (a * e - b * f - c * g - d * h) // 2,
        (a * f + b * e + c * h - d * g) // 2,
        (a * g - b * h + c * e + d * f) // 2,
        (a * h + b * g - c * f + d * e) // 2,
    )
