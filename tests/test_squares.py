"""Points 74 to 80: sums of four squares."""

import random
import unittest
from itertools import product as every
from math import isqrt

from samples import NO_NUMBERS, ZERO, great_numbers, great_primes_below, sample_numbers

from turnprimes.errors import InvalidNumber, InvalidQuestion, TooMany
from turnprimes.lists import numbers_of
from turnprimes.numbers import associates, canonical, is_whole, norm, of_integers, product
from turnprimes.squares import all_squares, greatest_squares, multiplied, square_count, squares_of

BOUNDS = {square_count: 10 ** 12, greatest_squares: 10 ** 9, all_squares: 10 ** 4}


def falling_tuples(value):
    """The falling tuples of an integer, the greatest first, by trying."""
    found = []
    for a in range(isqrt(value), -1, -1):
        for b in range(a, -1, -1):
            for c in range(b, -1, -1):
                rest = value - a * a - b * b - c * c
                if 0 <= rest <= c * c and isqrt(rest) ** 2 == rest:
                    found.append((a, b, c, isqrt(rest)))
    return found


def sums_in_all_orders(falling):
    """How many rows of four become the tuple by sorting and leaving out the signs."""
    rows = {row for row in every(*[{part, -part} for part in falling])}
    return len({tuple(row[at] for at in order) for row in rows for order in every(range(4), repeat=4)
                if len(set(order)) == 4})


class CountTest(unittest.TestCase):
    """Points 74 and 75."""

    def test_small_integers(self):
        for value in range(60):
            reach = isqrt(value)
            rows = every(range(-reach, reach + 1), repeat=3)
            many = 0
            for a, b, c in rows:
                rest = value - a * a - b * b - c * c
                if rest >= 0 and isqrt(rest) ** 2 == rest:
                    many += 1 if rest == 0 else 2
            self.assertEqual(square_count(value), many)

    def test_sums_of_divisors(self):
        for value in range(1, 600):
            divisors = [own for own in range(1, value + 1) if value % own == 0 and own % 4]
            self.assertEqual(square_count(value), 8 * sum(divisors))

    def test_examples(self):
        self.assertEqual(square_count(0), 1)
        self.assertEqual(square_count(1), 8)
        self.assertEqual(square_count(2), 24)
        self.assertEqual(square_count(3), 32)
        self.assertEqual(square_count(2 ** 39), 24)
        self.assertEqual(square_count(10 ** 12), 6 * (5 ** 13 - 1))
        prime, = great_primes_below(10 ** 12, 1)
        self.assertEqual(square_count(prime), 8 * (prime + 1))

    def test_sums_are_the_whole_numbers_of_a_norm(self):
        for value in [1, 2, 3, 4, 12, 45, 96, 101]:
            self.assertEqual(square_count(value), sum(is_whole(number) for number in numbers_of(value)))

    def test_all_falling_tuples_together(self):
        for value in [0, 1, 2, 3, 4, 7, 12, 30, 48, 54, 100]:
            self.assertEqual(square_count(value), sum(sums_in_all_orders(falling) for falling in all_squares(value)))


class GreatestTest(unittest.TestCase):
    """Point 76."""

    def test_small_integers(self):
        for value in range(700):
            self.assertEqual(greatest_squares(value), max(falling_tuples(value)))
            self.assertIs(type(greatest_squares(value)), tuple)

    def test_examples(self):
        self.assertEqual(greatest_squares(0), (0, 0, 0, 0))
        self.assertEqual(greatest_squares(1), (1, 0, 0, 0))
        self.assertEqual(greatest_squares(7), (2, 1, 1, 1))
        self.assertEqual(greatest_squares(1000), (30, 10, 0, 0))
        # The root of the greatest square is not always the first integer.
        self.assertEqual(greatest_squares(23), (3, 3, 2, 1))
        self.assertEqual(greatest_squares(32), (4, 4, 0, 0))

    def test_integers_that_8_divides(self):
        for value in range(0, 3000, 8):
            self.assertTrue(all(root % 2 == 0 for falling in all_squares(value) for root in falling))
            self.assertTrue(all(root % 2 == 0 for root in greatest_squares(value)))

    def test_integers_with_few_sums(self):
        for power in range(14):
            two = 2 ** power
            self.assertEqual(greatest_squares(2 * 4 ** power), (two, two, 0, 0))
            self.assertEqual(greatest_squares(4 ** power), (two, 0, 0, 0))
            self.assertEqual(greatest_squares(6 * 4 ** power), (2 * two, two, two, 0))
            if power < 13:
                self.assertEqual(greatest_squares(14 * 4 ** power), (3 * two, 2 * two, two, 0))

    def test_great_integers(self):
        source = random.Random(4)
        values = [10 ** 9, 10 ** 9 - 1, 10 ** 9 - 7, 4 ** 14 * 3, 7 * 4 ** 13, 31622 ** 2, 31622 ** 2 - 1, 2 ** 29]
        for value in values + [source.randrange(10 ** 9) for _ in range(60)]:
            found = greatest_squares(value)
            self.assertEqual(sum(root * root for root in found), value)
            self.assertEqual(list(found), sorted(found, reverse=True))
            self.assertGreaterEqual(found[3], 0)
            for first in range(found[0] + 1, isqrt(value) + 1):
                self.assertFalse(is_sum_of_three(value - first * first))
            rest = value - found[0] * found[0]
            if rest < 2 * 10 ** 5:
                self.assertEqual(found[1:], greatest_of_three(rest))
        self.assertEqual(greatest_squares(10 ** 9), (31616, 640, 112, 80))
        self.assertEqual(greatest_squares(31622 ** 2), (31622, 0, 0, 0))


def greatest_of_three(value):
    """The greatest falling tuple of three integers, by trying."""
    for a in range(isqrt(value), -1, -1):
        for b in range(min(a, isqrt(value - a * a)), -1, -1):
            c = isqrt(value - a * a - b * b)
            if c <= b and a * a + b * b + c * c == value:
                return (a, b, c)
    return None


def is_sum_of_three(value):
    """Whether an integer from 0 on is a sum of three squares, by the theorem that tells it."""
    while value and value % 4 == 0:
        value //= 4
    return value % 8 != 7


class AllTest(unittest.TestCase):
    """Point 77."""

    def test_small_integers(self):
        for value in range(400):
            found = all_squares(value)
            self.assertEqual(found, falling_tuples(value))
            self.assertEqual(found, sorted(found, reverse=True))
            self.assertEqual(found[0], greatest_squares(value))
            self.assertTrue(type(found) is list and all(type(falling) is tuple for falling in found))

    def test_examples(self):
        self.assertEqual(all_squares(0), [(0, 0, 0, 0)])
        self.assertEqual(all_squares(1), [(1, 0, 0, 0)])
        self.assertEqual(all_squares(12), [(3, 1, 1, 1), (2, 2, 2, 0)])
        self.assertEqual(all_squares(4), [(2, 0, 0, 0), (1, 1, 1, 1)])
        self.assertEqual(all_squares(8192), [(64, 64, 0, 0)])

    def test_integers_up_to_the_bound(self):
        for value in [9973, 9450, 10 ** 4]:
            self.assertEqual(all_squares(value), falling_tuples(value))

    def test_limits_that_are_just_enough_and_one_less(self):
        for value in [0, 1, 4, 12, 100, 997, 9450]:
            many = len(all_squares(value))
            self.assertEqual(all_squares(value, limit=many), all_squares(value))
            self.assertEqual(all_squares(value, limit=many + 1), all_squares(value))
            with self.assertRaises(TooMany) as caught:
                all_squares(value, limit=many - 1)
            self.assertEqual(caught.exception.limit, many - 1)

    def test_a_new_list_each_time(self):
        all_squares(12).clear()
        self.assertEqual(len(all_squares(12)), 2)


class NumbersTest(unittest.TestCase):
    """Points 78 and 79."""

    def test_examples(self):
        self.assertEqual(squares_of((3, 1, 1, 1)), (1, 1, 1, 0))
        self.assertEqual(squares_of((1, 1, 1, 1)), (1, 0, 0, 0))
        self.assertEqual(squares_of([4, 0, 0, 0]), (2, 0, 0, 0))
        self.assertEqual(squares_of((-2, 8, 4, -6)), (5, 2, 1, 0))
        self.assertEqual(squares_of((6, 0, 0, -6)), (3, 3, 0, 0))

    def test_whole_associates(self):
        for number in sample_numbers():
            if not any(number):
                continue
            found = squares_of(number)
            whole = [other for other in associates(number) if all(part % 2 == 0 for part in other)]
            expected = [tuple(sorted([abs(part) // 2 for part in other], reverse=True)) for other in whole]
            self.assertEqual(found, max(expected))
            self.assertIs(type(found), tuple)
            self.assertEqual(sum(root * root for root in found), norm(number))
            self.assertEqual(squares_of(canonical(number)), found)

    def test_they_need_not_be_the_greatest_of_the_norm(self):
        found = {squares_of(number) for number in numbers_of(18)}
        self.assertEqual(found, {(4, 1, 1, 0), (3, 3, 0, 0)})
        self.assertEqual(all_squares(18), [(4, 1, 1, 0), (3, 3, 0, 0), (3, 2, 2, 1)])
        self.assertEqual({squares_of(number) for number in numbers_of(25)}, set(all_squares(25)))

    def test_errors(self):
        for wrong in NO_NUMBERS:
            with self.subTest(wrong), self.assertRaises(InvalidNumber):
                squares_of(wrong)
        for zero in (ZERO, [0, 0, 0, 0]):
            with self.assertRaises(InvalidQuestion):
                squares_of(zero)

    def test_multiplied(self):
        self.assertEqual(multiplied((1, 1, 1, 0), (2, 1, 0, 0)), (3, 2, 1, 1))
        self.assertEqual(multiplied((0, 0, 0, 0), (2, 1, 0, 0)), (0, 0, 0, 0))
        self.assertEqual(multiplied([0, -3, 0, 0], [0, 0, 5, 0]), (15, 0, 0, 0))
        rows = [(1, 2, 3, 4), (0, -1, 0, 2), (5, 5, -5, 1), (1, 0, 0, 0), tuple(great_numbers(40, 1)[0])]
        for one, other in every(rows, repeat=2):
            found = multiplied(one, other)
            parts = product(of_integers(one), of_integers(other))
            self.assertEqual(found, tuple(sorted([abs(part) // 2 for part in parts], reverse=True)))
            self.assertIs(type(found), tuple)
            squares = [sum(part * part for part in row) for row in (one, other, found)]
            self.assertEqual(squares[0] * squares[1], squares[2])

    def test_the_order_of_both_counts(self):
        one, other = (1, 2, 3, 4), (2, -1, 0, 3)
        self.assertNotEqual(multiplied(one, other), multiplied(other, one))

    def test_rows_that_are_passed_stay(self):
        one, other = [1, -2, 3, 4], [0, 1, 0, 5]
        multiplied(one, other)
        self.assertEqual((one, other), ([1, -2, 3, 4], [0, 1, 0, 5]))


class BoundsTest(unittest.TestCase):
    """Point 80."""

    def test_bounds(self):
        for action, bound in BOUNDS.items():
            action(0)
            action(1)
            action(bound)
            for value in (-1, -2, -8, -bound, bound + 1, bound + 8, 10 * bound, 10 ** 40):
                with self.subTest(action.__name__, value=value), self.assertRaises(InvalidQuestion):
                    action(value)

    def test_bounds_come_ahead_of_the_limit(self):
        for value in (-1, 10 ** 4 + 1):
            with self.assertRaises(InvalidQuestion):
                all_squares(value, limit=0)


if __name__ == "__main__":
    unittest.main()
