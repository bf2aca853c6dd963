"""All numbers of a norm: how many there are, lists of them, and the places of the primitive ones."""

from math import isqrt

from turnprimes.errors import InvalidQuestion, TooMany
from turnprimes.factors import number_by, primes_of, primes_of_norm, row_of, whole_primes
from turnprimes.numbers import conjugate, is_primitive, norm, product, product_of, units
from turnprimes.words import number_of_word, word_count, word_of_number

_TWO = (2, 2, 0, 0)
_UNIT_COUNT = 24


def number_count(value):
    """Return how many numbers have this norm."""
    count = _UNIT_COUNT
    for prime, power in whole_primes(value):
        if prime != 2:
            divisors = 1
            for _ in range(power):
                divisors = divisors * prime + 1
            count *= divisors
    return count


def primitive_count(value):
    """Return how many primitive numbers have this norm."""
    count = _UNIT_COUNT
    for prime, power in whole_primes(value):
        # The one letter of 2 is its own partner, so no reduced word has it twice.
        count *= word_count(1 if prime == 2 else prime + 1, power)
    return count


def turn_count(value):
    """Return how many turns come from the primitive numbers of this norm."""
    return primitive_count(value) // 2


def numbers_of(value, *, limit=20000):
    """Return the list of all numbers of this norm, ascending."""
    _check_count(value, limit)
    odd, lead = value, []
    while odd % 2 == 0:
        odd //= 2
        lead.append(_TWO)
    # All numbers of an even norm have the one canonical number of the norm 2 ahead.
    ahead = product_of(lead)
    return sorted([product(ahead, number) for number in _numbers_of_odd(odd)])


def primitive_of(value, *, limit=20000):
    """Return the list of the primitive numbers of this norm, ascending."""
    return [number for number in numbers_of(value, limit=limit) if is_primitive(number)]


def by_content(value, *, limit=20000):
    """Return the contents that numbers of this norm have, ascending, each with how many numbers have it."""
    _check_count(value, limit)
    contents = [1]
    for prime, power in whole_primes(value):
        latest = contents
        for _ in range(power // 2):
            latest = [content * prime for content in latest]
            contents = contents + latest
    found = [(content, primitive_count(value // (content * content))) for content in sorted(contents)]
    return [(content, many) for content, many in found if many > 0]


def primitive_at(value, place):
    """Return the primitive number of this norm with this place."""
    if not 0 <= place < primitive_count(value):
        raise InvalidQuestion("no primitive number of this norm has this place")
    rest, unit_place = divmod(place, _UNIT_COUNT)
    row = []
    for prime, power in reversed(whole_primes(value)):
        letters = primes_of(prime)
        rest, number = divmod(rest, word_count(len(letters), power))
        word = word_of_number(letters, power, number)
        row = [letters[letter - 1] for letter in word] + row
    return number_by(row, units()[unit_place])


def place_of(number):
    """Return the place of a primitive number among those of its norm."""
    row, unit = row_of(number, primes_of_norm(number))
    place = 0
    for prime, power in whole_primes(norm(number)):
        letters = primes_of(prime)
        word = [letters.index(factor) + 1 for factor in row[:power]]
        row = row[power:]
        place = place * word_count(len(letters), power) + number_of_word(letters, word)
    return place * _UNIT_COUNT + units().index(unit)


def opposite_place(value, place):
    """Return the place of the conjugate of the primitive number of this norm with this place."""
    return place_of(conjugate(primitive_at(value, place)))


def _check_count(value, limit):
    if number_count(value) > limit:
        raise TooMany(limit)


def _numbers_of_odd(value):
    """Return all numbers of an odd norm, in no certain order."""
    # Four squares that make a multiple of 4 are all even or all odd, so all such rows are numbers.
    total = 4 * value
    pairs = _pairs_by_sum(total)
    found = []
    for squares, beginnings in pairs.items():
        ends = pairs.get(total - squares, [])
        found.extend([(*beginning, *end) for beginning in beginnings for end in ends])
    return found


def _pairs_by_sum(most):
    """Return the pairs of integers by the sums of their squares, up to one."""
    root = isqrt(most)
    found = {}
    for one in range(-root, root + 1):
        for other in range(-root, root + 1):
            squares = one * one + other * other
            if squares <= most:
                found.setdefault(squares, []).append((one, other))
    return found
