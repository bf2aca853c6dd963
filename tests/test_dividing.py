"""Points 15 to 17, and 27 for them: division on both sides."""

import unittest
from fractions import Fraction
from itertools import product as every
from math import floor, lcm

from samples import NO_NUMBERS, ONE, ZERO, great_numbers, sample_numbers, small_numbers

from turnprimes.dividing import (
    divided_left, divided_right, is_left_divisor, is_right_divisor, left_quotient, right_quotient,
)
from turnprimes.errors import InvalidNumber, InvalidQuestion
from turnprimes.numbers import added, conjugate, norm, product, times

# Each with the number first and the divisor behind it.
FUNCTIONS = {
    "divided_left": divided_left,
    "divided_right": divided_right,
    "left_quotient": left_quotient,
    "right_quotient": right_quotient,
    "is_left_divisor": lambda number, divisor: is_left_divisor(divisor, number),
    "is_right_divisor": lambda number, divisor: is_right_divisor(divisor, number),
}


def exact_left(number, divisor):
    """The doubled parts of the exact quotient on the left, fractions."""
    return [Fraction(part, norm(divisor)) for part in product(conjugate(divisor), number)]


def exact_right(number, divisor):
    return [Fraction(part, norm(divisor)) for part in product(number, conjugate(divisor))]


def nearest_by_search(exact):
    """The numbers nearest to doubled parts that are fractions, ascending."""
    below = lcm(*[part.denominator for part in exact])
    whole = [int(part * below) for part in exact]
    near = every(*[range(part // below - 1, part // below + 3) for part in whole])
    far = {}
    for number in near:
        if number[0] % 2 == number[1] % 2 == number[2] % 2 == number[3] % 2:
            far[number] = sum([(x - y * below) ** 2 for x, y in zip(whole, number)])
    least = min(far.values())
    return sorted([number for number, distance in far.items() if distance == least])


def pairs():
    """Numbers and divisors of all kinds."""
    numbers = sample_numbers()
    divisors = [number for number in numbers[::3] + small_numbers(2)[::7] + great_numbers(3, 4) if any(number)]
    return [(number, divisor) for at, divisor in enumerate(divisors) for number in numbers[at % 5::5]]


class DividedTest(unittest.TestCase):
    """Points 15 and 16."""

    def test_examples(self):
        self.assertEqual(divided_left((6, 2, 0, 0), (4, 0, 0, 0)), ((4, 2, 0, 0), (-2, -2, 0, 0)))
        self.assertEqual(divided_left((0, 0, 0, 2), (0, 2, 0, 0)), ((0, 0, 2, 0), ZERO))
        self.assertEqual(divided_right((0, 0, 0, 2), (0, 2, 0, 0)), ((0, 0, -2, 0), ZERO))

    def test_quotient_and_remainder_make_the_number_on_their_side(self):
        for number, divisor in pairs():
            quotient, remainder = divided_left(number, divisor)
            self.assertEqual(added(product(divisor, quotient), remainder), number)
            quotient, remainder = divided_right(number, divisor)
            self.assertEqual(added(product(quotient, divisor), remainder), number)

    def test_the_norm_of_the_remainder_is_at_most_half_of_that_of_the_divisor(self):
        reached = 0
        for number, divisor in pairs():
            for divided in (divided_left, divided_right):
                _, remainder = divided(number, divisor)
                self.assertLessEqual(2 * norm(remainder), norm(divisor))
                reached += 2 * norm(remainder) == norm(divisor)
        self.assertGreater(reached, 0)

    def test_quotients_are_the_greatest_of_the_nearest_ones(self):
        for number, divisor in pairs()[::5]:
            self.assertEqual(divided_left(number, divisor)[0], nearest_by_search(exact_left(number, divisor))[-1])
            self.assertEqual(divided_right(number, divisor)[0], nearest_by_search(exact_right(number, divisor))[-1])

    def test_several_nearest_quotients(self):
        kinds = set()
        for number in small_numbers(3)[::3]:
            for divisor in [(4, 0, 0, 0), (2, 2, 0, 0), (-4, 0, 0, 0), (0, 4, 4, 0), (4, 4, 4, 4), (8, 0, 0, 0)]:
                for divided, exact in [(divided_left, exact_left), (divided_right, exact_right)]:
                    nearest = nearest_by_search(exact(number, divisor))
                    self.assertEqual(divided(number, divisor)[0], nearest[-1])
                    kinds.add((len(nearest), nearest[-1][0] % 2, nearest[0][0] % 2))
        # How many there are, and whether the greatest and the least one have odd parts.
        self.assertEqual({many for many, _, _ in kinds}, {1, 2, 4, 8})
        self.assertGreater(kinds, {(4, 0, 1), (4, 1, 0), (2, 0, 1), (2, 1, 0), (2, 0, 0), (2, 1, 1)})

    def test_halves_between_numbers(self):
        self.assertEqual(divided_left((2, 2, 0, 0), (4, 0, 0, 0)), ((2, 2, 0, 0), (-2, -2, 0, 0)))
        self.assertEqual(divided_left((-2, -2, 0, 0), (4, 0, 0, 0)), ((0, 0, 0, 0), (-2, -2, 0, 0)))
        self.assertEqual(divided_left((0, 0, 2, 2), (4, 0, 0, 0)), ((1, 1, 1, 1), (-2, -2, 0, 0)))
        self.assertEqual(divided_right((0, 0, 2, 2), (4, 0, 0, 0)), ((1, 1, 1, 1), (-2, -2, 0, 0)))
        self.assertEqual(divided_right((0, 0, -2, -2), (4, 0, 0, 0)), ((1, 1, -1, -1), (-2, -2, 0, 0)))

    def test_sides_differ(self):
        number, divisor = (2, 4, 6, 8), (3, 1, 5, -1)
        self.assertNotEqual(divided_left(number, divisor), divided_right(number, divisor))
        for number, divisor in pairs():
            quotient, remainder = divided_left(number, divisor)
            other = (product(conjugate(quotient), conjugate(divisor)), conjugate(remainder))
            self.assertEqual(added(*other), conjugate(number))

    def test_parts_of_many_digits(self):
        numbers = great_numbers(13, 4) + great_numbers(100, 4) + great_numbers(500, 2)
        for number in numbers:
            for divisor in numbers + [(3, 1, 1, 1), (2, 0, 0, 0)]:
                quotient, remainder = divided_left(number, divisor)
                self.assertEqual(added(product(divisor, quotient), remainder), number)
                self.assertLessEqual(2 * norm(remainder), norm(divisor))
                self.assertEqual(quotient, nearest_of_great(exact_left(number, divisor)))

    def test_zero_is_divided(self):
        for _, divisor in pairs():
            self.assertEqual(divided_left(ZERO, divisor), (ZERO, ZERO))
            self.assertEqual(divided_right(ZERO, divisor), (ZERO, ZERO))

    def test_lists_do_as_tuples_and_stay(self):
        for name, action in FUNCTIONS.items():
            for number, divisor in [((6, 2, 4, 0), (3, 1, 1, 1)), ((4, 4, 0, 0), (2, 2, 0, 0))]:
                with self.subTest(name):
                    one, other = list(number), list(divisor)
                    self.assertEqual(action(one, other), action(number, divisor))
                    self.assertEqual((one, other), (list(number), list(divisor)))

    def test_tuples_are_returned(self):
        for divided in (divided_left, divided_right):
            found = divided([6, 2, 4, 0], [3, 1, 1, 1])
            self.assertEqual([type(found)] + [type(number) for number in found], [tuple] * 3)
        for quotient in (left_quotient, right_quotient):
            self.assertIs(type(quotient([4, 4, 0, 0], [2, 2, 0, 0])), tuple)


def nearest_of_great(exact):
    """The nearest number by rounding each part to both kinds of integers, up where it lies between two of them."""
    even = tuple([2 * floor(part / 2 + Fraction(1, 2)) for part in exact])
    odd = tuple([2 * floor(part / 2) + 1 for part in exact])
    far = [sum((x - y) ** 2 for x, y in zip(exact, number)) for number in (even, odd)]
    return max([number for number, distance in zip((even, odd), far) if distance == min(far)])


class DivisorsTest(unittest.TestCase):
    """Point 17."""

    def test_examples(self):
        self.assertEqual(left_quotient((2, 2, 2, 2), (2, 2, 0, 0)), (2, 0, 2, 0))
        self.assertEqual(right_quotient((2, 2, 2, 2), (2, 2, 0, 0)), (2, 0, 0, 2))
        self.assertIsNone(left_quotient((6, 2, 0, 0), (4, 0, 0, 0)))
        self.assertIsNone(right_quotient((6, 2, 0, 0), (4, 0, 0, 0)))

    def test_quotients_of_products(self):
        for one, other in pairs():
            if any(one):
                made = product(one, other)
                self.assertEqual(left_quotient(made, one), other)
                self.assertEqual(right_quotient(made, other), one)
                self.assertIs(is_left_divisor(one, made), True)
                self.assertIs(is_right_divisor(other, made), True)

    def test_divisors_are_those_whose_exact_quotient_is_a_number(self):
        found = set()
        for number in small_numbers(4)[::11] + [(6, 2, 2, 2), (4, 8, 0, 0), (10, 0, 0, 0)]:
            for divisor in small_numbers(2):
                if not any(divisor):
                    continue
                for exact, quotient, divides in [
                    (exact_left(number, divisor), left_quotient, is_left_divisor),
                    (exact_right(number, divisor), right_quotient, is_right_divisor),
                ]:
                    parts = [int(part) for part in exact if part.denominator == 1]
                    has = len(parts) == 4 and len({part % 2 for part in parts}) == 1
                    self.assertIs(divides(divisor, number), has)
                    self.assertEqual(quotient(number, divisor), tuple(parts) if has else None)
                found.add((is_left_divisor(divisor, number), is_right_divisor(divisor, number)))
        self.assertEqual(found, {(True, True), (True, False), (False, True), (False, False)})

    def test_zero_has_every_divisor(self):
        for _, divisor in pairs():
            self.assertIs(is_left_divisor(divisor, ZERO), True)
            self.assertIs(is_right_divisor(divisor, [0, 0, 0, 0]), True)
            self.assertEqual(left_quotient(ZERO, divisor), ZERO)
            self.assertEqual(right_quotient(ZERO, divisor), ZERO)

    def test_units_are_divisors_of_all(self):
        for number in sample_numbers():
            self.assertIs(is_left_divisor((1, -1, 1, 1), number), True)
            self.assertIs(is_right_divisor(ONE, number), True)

    def test_parts_of_many_digits(self):
        one, other = great_numbers(300, 2)
        made = product(one, other)
        self.assertEqual(left_quotient(made, one), other)
        self.assertEqual(right_quotient(made, other), one)
        self.assertIsNone(left_quotient(added(made, ONE), one))
        self.assertIs(is_left_divisor(other, made), False)
        self.assertIs(is_right_divisor(one, made), False)
        self.assertIs(is_left_divisor(times(one, 3), times(made, 3)), True)


class ErrorsTest(unittest.TestCase):
    """Point 27."""

    def assert_raises_just(self, error, action, *arguments):
        with self.assertRaises(error) as caught:
            action(*arguments)
        self.assertIs(type(caught.exception), error)

    def test_what_is_no_number(self):
        for name, action in FUNCTIONS.items():
            for wrong in NO_NUMBERS:
                for other in [ONE, ZERO, (3, 1, 1, 1), wrong]:
                    with self.subTest(name, wrong=wrong, other=other):
                        self.assert_raises_just(InvalidNumber, action, wrong, other)
                        self.assert_raises_just(InvalidNumber, action, other, wrong)
                        self.assert_raises_just(InvalidNumber, action, list(wrong), list(other))

    def test_a_divisor_that_is_zero(self):
        for name, action in FUNCTIONS.items():
            for number in [ONE, ZERO, (3, 1, 1, 1), [0, 0, 0, 0]]:
                with self.subTest(name, number=number):
                    self.assert_raises_just(InvalidQuestion, action, number, ZERO)
                    self.assert_raises_just(InvalidQuestion, action, number, [0, 0, 0, 0])


if __name__ == "__main__":
    unittest.main()
