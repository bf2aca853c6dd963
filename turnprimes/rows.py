"""Rows of numbers with primes as norms: which are reduced, and which make a number."""

from math import factorial

from turnprimes.dividing import left_quotient
from turnprimes.errors import InvalidQuestion, TooMany
from turnprimes.factors import (
    MOST_PRIME, check_numbers, check_primes_of, check_row, is_prime, left_primes, power_in, whole_primes,
)
from turnprimes.numbers import canonical, check_not_zero, check_number, content, is_unit, norm, product, product_of


def cancels(one, other):
    """Tell whether two numbers have one prime as norm, which divides their product in this order."""
    check_row([one, other])
    prime = norm(one)
    return norm(other) == prime and content(product(one, other)) % prime == 0


def is_reduced_row(row):
    """Tell whether no two neighbours of a row of canonical numbers cancel."""
    check_row(row)
    if not all([canonical(number) == tuple(number) for number in row]):
        raise InvalidQuestion("a number of the row is not canonical")
    return not any([cancels(one, other) for one, other in zip(row, row[1:])])


def shows_primitive(row):
    """Tell whether a row is reduced and all numbers of the same norm stand side by side in it."""
    if not is_reduced_row(row):
        return False
    norms = [norm(number) for number in row]
    beginnings = [at for at, value in enumerate(norms) if at == 0 or norms[at - 1] != value]
    return len(beginnings) == len(set(norms))


def check_factoring(number, factors):
    """Tell whether a list is a factoring of a number: numbers with primes as norms and a unit that make it."""
    check_number(number)
    check_numbers(factors)
    if len(factors) == 0 or not is_unit(factors[-1]):
        return False
    return all([is_prime(norm(factor)) for factor in factors[:-1]]) and product_of(factors) == tuple(number)


def factorings(number, primes, *, limit=2000):
    """Return all rows of canonical numbers for one order of the primes of a number, and the units behind, ascending."""
    # Counted first, so that too many rows are not looked for.
    factoring_count(number, primes, limit=limit)
    found = [([], tuple(number))]
    for prime in primes:
        found = [
            ([*row, first], left_quotient(rest, first)) for row, rest in found for first in left_primes(rest, prime)
        ]
    return found


def factoring_count(number, primes, *, limit=2000):
    """Return how many rows of canonical numbers a number has for one order of its primes."""
    check_primes_of(number, primes)
    if any([prime > MOST_PRIME for prime in primes]):
        raise InvalidQuestion("a prime is above 1000")
    count = 1
    for prime, power in whole_primes(norm(number)):
        count *= _row_count(prime, power, power_in(content(number), prime))
    if count > limit:
        raise TooMany(limit)
    return count


def order_count(number):
    """Return the number of the orders of the primes of a number."""
    check_not_zero(number)
    powers = [power for _, power in whole_primes(norm(number))]
    count = factorial(sum(powers))
    for power in powers:
        count //= factorial(power)
    return count


def _row_count(prime, power, inside):
    """Return how many rows there are for the power of a prime in a norm, if the prime is inside the content so often.

    Other primes between those of the row make no difference. While an odd prime divides what is left, any of the
    prime + 1 numbers can come next: one of them takes a prime from the primitive part, if that has one, and the
    others take one from the content and give one to the primitive part.
    """
    if prime == 2:
        return 1
    # How many beginnings of rows leave a primitive part with so many of the prime in its norm.
    ways = {power - 2 * inside: 1}
    for left in range(power, 0, -1):
        after = {}
        for outside, many in ways.items():
            if outside > 0:
                after[outside - 1] = after.get(outside - 1, 0) + many
            if outside < left:
                giving = prime if outside > 0 else prime + 1
                after[outside + 1] = after.get(outside + 1, 0) + many * giving
        ways = after
    return ways[0]
