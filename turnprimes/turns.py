"""The turns of space that numbers make."""

from math import gcd, lcm

from turnprimes.errors import InvalidQuestion, InvalidTurn
from turnprimes.numbers import check_not_zero, norm, of_integers, opposite, primitive_part

# Orders, each behind how many norms make the square of the first doubled part of the primitive number.
_ORDERS = ((4, 1), (0, 2), (1, 3), (2, 4), (3, 6))


def turn_of(number):
    """Return the turn that a number makes."""
    check_not_zero(number)
    a, b, c, d = number
    rows = (
        (a * a + b * b - c * c - d * d, 2 * (b * c - a * d), 2 * (b * d + a * c)),
        (2 * (b * c + a * d), a * a - b * b + c * c - d * d, 2 * (c * d - a * b)),
        (2 * (b * d - a * c), 2 * (c * d + a * b), a * a - b * b - c * c + d * d),
    )
    return _in_lowest_terms(4 * norm(number), rows)


def check_turn(turn):
    """Raise InvalidTurn if something is no turn."""
    if not _has_form(turn) or not _is_in_lowest_terms(turn) or not _keeps_space(turn):
        raise InvalidTurn("this is no turn")


def number_of_turn(turn):
    """Return the greater one of the two primitive numbers that make the turn."""
    check_turn(turn)
    size, ((a, b, c), (d, e, f), (g, h, i)) = turn
    # Each row is the four parts of such a number, times one of them.
    table = (
        (size + a + e + i, h - f, c - g, d - b),
        (h - f, size + a - e - i, b + d, c + g),
        (c - g, b + d, size - a + e - i, f + h),
        (d - b, c + g, f + h, size - a - e + i),
    )
    parts = [row for row in table if any(row)][0]
    number = primitive_part(of_integers(parts))
    return max(number, opposite(number))


def composed(first, second):
    """Return the turn that is the first turn and then the second one."""
    check_turn(first)
    check_turn(second)
    size, rows = first
    other_size, other_rows = second
    columns = list(zip(*rows))
    table = [[times_row(row, column) for column in columns] for row in other_rows]
    return _in_lowest_terms(size * other_size, table)


def inverse(turn):
    """Return the turn back."""
    check_turn(turn)
    size, rows = turn
    return (size, tuple(zip(*rows)))


def order_of(turn):
    """Return how many times the turn leads each point back, or None if it never does."""
    number = number_of_turn(turn)
    square = number[0] * number[0]
    for factor, order in _ORDERS:
        if square == factor * norm(number):
            return order
    return None


def axis_of(turn):
    """Return the coprime integers along which all points stay, or None if all points do."""
    _, b, c, d = number_of_turn(turn)
    common = gcd(b, c, d)
    if common == 0:
        return None
    axis = (b // common, c // common, d // common)
    return max(axis, tuple([-part for part in axis]))


def are_one_turn(one, other):
    """Tell whether two numbers make the same turn."""
    check_not_zero(one)
    check_not_zero(other)
    return turn_of(one) == turn_of(other)


def turned(turn, point):
    """Return the point of fractions to which the turn leads a point of fractions."""
    check_turn(turn)
    if not _is_point_of_fractions(point):
        raise InvalidQuestion("this is no point of fractions")
    size, rows = turn
    below = 1
    for _, divisor in point:
        below = lcm(below, divisor)
    parts = [part * (below // divisor) for part, divisor in point]
    return tuple([_fraction(times_row(row, parts), size * below) for row in rows])


def times_row(row, parts):
    """Return the products of the integers of two rows, added up."""
    return sum([part * other for part, other in zip(row, parts)])


def is_row(values, many):
    """Tell whether something is a tuple or list of so many integers."""
    if not isinstance(values, (tuple, list)) or len(values) != many:
        return False
    return all([is_plain_integer(value) for value in values])


def is_plain_integer(value):
    """Tell whether something is an integer; True and False are none here, though Python takes them for some."""
    return isinstance(value, int) and not isinstance(value, bool)


def _in_lowest_terms(size, rows):
    common = size
    for x, y, z in rows:
        common = gcd(common, x, y, z)
    return (size // common, tuple([tuple([part // common for part in row]) for row in rows]))


def _has_form(turn):
    if not isinstance(turn, (tuple, list)) or len(turn) != 2:
        return False
    size, rows = turn
    if not is_plain_integer(size) or not isinstance(rows, (tuple, list)):
        return False
    return size > 0 and len(rows) == 3 and all([is_row(row, 3) for row in rows])


def _is_in_lowest_terms(turn):
    size, _ = _in_lowest_terms(turn[0], turn[1])
    return size == turn[0]


def _keeps_space(turn):
    size, (first, second, third) = turn
    square = size * size
    a, b, c = first
    d, e, f = second
    crossed = (b * f - c * e, c * d - a * f, a * e - b * d)
    lengths = [times_row(row, row) for row in (first, second, third)]
    across = [times_row(first, second), times_row(second, third), times_row(third, first)]
    # The third row is the cross product of the others where the determinant has the right sign.
    return lengths == [square] * 3 and not any(across) and times_row(crossed, third) == size * square


def _is_point_of_fractions(point):
    if not isinstance(point, (tuple, list)) or len(point) != 3:
        return False
    return all([is_row(fraction, 2) and fraction[1] > 0 for fraction in point])


def _fraction(part, divisor):
    common = gcd(part, divisor)
    return (part // common, divisor // common)
