"""Words of the letters of one odd prime, the places of a tree, and what turns they make."""

from turnprimes.errors import InvalidQuestion, InvalidWord
from turnprimes.factors import check_odd_prime, power_in, primes_of, row_by
from turnprimes.numbers import check_not_zero, content, norm, opposite, primitive_part, product, product_of
from turnprimes.turns import is_plain_integer
from turnprimes.words import number_of_word, partner_of, word_count, word_of_number

_ONE = (2, 0, 0, 0)
_MOST_PRIME = 199


def letters(prime):
    """Return the list of the letters of the prime, ascending."""
    check_odd_prime(prime, _MOST_PRIME)
    return primes_of(prime)


def partner(prime, letter):
    """Return the number of the partner of a letter."""
    _check_word(prime, [letter])
    return partner_of(letters(prime), letter)


def product_at(prime, word):
    """Return the product of the letters of the word."""
    _check_word(prime, word)
    own = letters(prime)
    return product_of([own[letter - 1] for letter in word])


def is_reduced(prime, word):
    """Tell whether no letter of the word is followed by its partner."""
    _check_word(prime, word)
    own = letters(prime)
    return not any([partner_of(own, one) == other for one, other in zip(word, word[1:])])


def word_of(prime, number):
    """Return how many times the prime is in the number, the word of the number, and the unit behind."""
    _check_number(prime, number)
    _check_norm(prime, number)
    own = letters(prime)
    part = primitive_part(number)
    row, unit = row_by(part, [prime] * power_in(norm(part), prime))
    return (power_in(content(number), prime), tuple([own.index(factor) + 1 for factor in row]), unit)


def reduced(prime, word):
    """Return how many times the prime is in the product of the word, its reduced word, and the unit behind."""
    return word_of(prime, product_at(prime, word))


def is_place(prime, number):
    """Tell whether the number is the product of a reduced word."""
    many, _, unit = word_of(prime, number)
    return many == 0 and unit == _ONE


def same_turn(prime, one, other):
    """Tell whether two words make the same turn."""
    _, first_word, first_unit = reduced(prime, one)
    _, second_word, second_unit = reduced(prime, other)
    return first_word == second_word and first_unit in (second_unit, opposite(second_unit))


def is_no_turn(prime, word):
    """Tell whether the word turns nothing."""
    return same_turn(prime, word, ())


def meeting(prime, one, other):
    """Return the word of the meeting of the places of two words."""
    first, second = _places(prime, [one, other])
    return _beginning(first, second)


def distance(prime, one, other):
    """Return the number of steps between the places of two words."""
    first, second = _places(prime, [one, other])
    return len(first) + len(second) - 2 * len(_beginning(first, second))


def way(prime, one, other):
    """Return the words of all places from that of the first word to that of the other one."""
    first, second = _places(prime, [one, other])
    many = len(_beginning(first, second))
    back = [first[:length] for length in range(len(first), many, -1)]
    return back + [second[:length] for length in range(many, len(second) + 1)]


def middle(prime, one, other, third):
    """Return the word of the place that lies on all ways between the places of three words."""
    first, second, last = _places(prime, [one, other, third])
    return max([_beginning(first, second), _beginning(second, last), _beginning(first, last)], key=len)


def place_of(prime, number, word):
    """Return the word of the place to which the number leads the place of the word."""
    _check_number(prime, number)
    # The norm of the product is a power of the prime if that of the number is one, and only then.
    _, led, _ = word_of(prime, product(number, product_at(prime, word)))
    return led


def place_count(prime, length):
    """Return how many reduced words of this length there are."""
    own = letters(prime)
    if length < 0:
        raise InvalidQuestion("the length is below 0")
    return word_count(len(own), length)


def number_of(prime, word):
    """Return the number of a reduced word among those of its length."""
    if not is_reduced(prime, word):
        raise InvalidWord("the word is not reduced")
    return number_of_word(letters(prime), word)


def word_at(prime, length, number):
    """Return the reduced word of this length with the number."""
    if not 0 <= number < place_count(prime, length):
        raise InvalidQuestion("no reduced word of this length has this number")
    return tuple(word_of_number(letters(prime), length, number))


def _check_number(prime, number):
    check_odd_prime(prime, _MOST_PRIME)
    check_not_zero(number)


def _check_word(prime, word):
    check_odd_prime(prime, _MOST_PRIME)
    if not all([is_plain_integer(letter) and 1 <= letter <= prime + 1 for letter in word]):
        raise InvalidWord("this is no number of a letter")


def _check_norm(prime, number):
    rest = norm(number)
    while rest % prime == 0:
        rest //= prime
    if rest != 1:
        raise InvalidQuestion("the norm is no power of the prime")


def _places(prime, words):
    """Return the reduced words of some words."""
    found = []
    for word in words:
        _, place, _ = reduced(prime, word)
        found.append(place)
    return found


def _beginning(one, other):
    """Return what two words have in common at the beginning."""
    many = 0
    while many < min(len(one), len(other)) and one[many] == other[many]:
        many += 1
    return one[:many]
