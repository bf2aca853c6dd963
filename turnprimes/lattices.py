"""The whole points that turns lead to whole points."""

from math import lcm

from turnprimes.errors import InvalidQuestion
from turnprimes.turns import check_turn, is_row, times_row

_MOST_TURNS = 6


def common_base(turns):
    """Return the base of the common points of one to six turns."""
    _check_turns(turns)
    size = 1
    for own_size, _ in turns:
        size = lcm(size, own_size)
    rows = [_scaled(row, size // own_size) for own_size, table in turns for row in table]
    # What all products with the rows need, the points of the inverse base have, and no others.
    (a, b, c), (_, d, e), (_, _, f) = _base_of(rows, size)
    points = [
        (size // a, 0, 0),
        (-size * b // (a * d), size // d, 0),
        (size * (b * e - c * d) // (a * d * f), -size * e // (d * f), size // f),
    ]
    return _base_of(points, size)


def common_index(turns):
    """Return of how many whole points, evenly, one is common."""
    (a, _, _), (_, d, _), (_, _, f) = common_base(turns)
    return a * d * f


def is_common(turns, point):
    """Tell whether all turns lead the point of three integers to such a point."""
    _check_turns(turns)
    _check_point(point)
    return all([times_row(row, point) % size == 0 for size, table in turns for row in table])


def parts_in_base(turns, point):
    """Return how many times each point of the base is in a point, or None if it is no common point."""
    if not is_common(turns, point):
        return None
    rest = list(point)
    parts = []
    for at, row in enumerate(common_base(turns)):
        # The rows behind have no part in this place, so it alone tells how often.
        many = rest[at] // row[at]
        rest = [part - many * own for part, own in zip(rest, row)]
        parts.append(many)
    return tuple(parts)


def _check_turns(turns):
    for turn in turns:
        check_turn(turn)
    if not 1 <= len(turns) <= _MOST_TURNS:
        raise InvalidQuestion("common points are those of one to six turns")


def _check_point(point):
    if not is_row(point, 3):
        raise InvalidQuestion("this is no point of three integers")


def _scaled(row, factor):
    return tuple([part * factor for part in row])


def _base_of(rows, size):
    """Return the base of all sums of multiples of the rows and of points whose parts the size divides."""
    base = [(size, 0, 0), (0, size, 0), (0, 0, size)]
    for row in rows:
        base = _with_row(base, row, size)
    return _reduced(base)


def _with_row(base, row, size):
    """Return rows of the form of a base that make what the base and one more row make."""
    found = []
    rest = _modulo(row, size)
    for at, own in enumerate(base):
        common, many, more = _sum_of(own[at], rest[at])
        joined = [many * part + more * other for part, other in zip(own, rest)]
        left = [own[at] // common * other - rest[at] // common * part for part, other in zip(own, rest)]
        # Behind this place the base has the size itself as a sum, so what is left may be told modulo it.
        found.append([0] * at + [common] + _modulo(joined[at + 1:], size))
        rest = _modulo(left, size)
    return found


def _modulo(parts, size):
    return [part % size for part in parts]


def _sum_of(one, other):
    """Return the greatest common divisor of two integers from 0 on, and how often each is in it."""
    rows = [(one, 1, 0), (other, 0, 1)]
    while rows[1][0]:
        before, last = rows
        many = before[0] // last[0]
        rows = [last, tuple([part - many * own for part, own in zip(before, last)])]
    return rows[0]


def _reduced(base):
    (a, b, c), (_, d, e), (_, _, f) = base
    many = b // d
    return ((a, b - many * d, (c - many * e) % f), (0, d, e % f), (0, 0, f))
