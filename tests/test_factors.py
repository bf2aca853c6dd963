"""Points 28 to 36, and 41 and 42 for them: primes of integers, numbers of prime norm, and rows of them."""

import unittest
from itertools import permutations, product as every

from samples import (
    GREAT_PRIME, NO_NUMBERS, NO_PRIME_NORMS, ONE, ZERO, great_numbers, great_primes_below, number_of_norm, primes_in,
    sample_numbers, small_numbers,
)

from turnprimes.common import left_common
from turnprimes.dividing import is_left_divisor, left_quotient
from turnprimes.errors import InvalidNumber, InvalidQuestion
from turnprimes.factors import (
    is_prime, left_primes, moved, number_by, primes_of, row_of, row_of_factors, same_factoring, whole_primes,
)
from turnprimes.numbers import (
    associates, canonical, conjugate, content, is_number, is_primitive, is_unit, norm, opposite, product, product_of,
    times, units,
)

SMALL_PRIMES = [value for value in range(2, 1001) if all(value % divisor for divisor in range(2, value))]
I = (0, 2, 0, 0)
J = (0, 0, 2, 0)
THREE = (3, 1, 1, 1)
FIVE = (4, 2, 0, 0)
TWO = (2, 2, 0, 0)

NO_SMALL_PRIMES = [0, 1, -1, -2, -3, -7, 4, 6, 9, 91, 561, 999, 1000, 1001, 1009, 1013, 999983, 10 ** 12 + 39]


def primitive_samples():
    """Primitive numbers whose norms have several primes."""
    numbers = [number for number in small_numbers(5)[::29] if any(number) and is_primitive(number)]
    numbers += [product_of([THREE, FIVE, TWO, (1, 1, 3, 3)]), product_of([THREE, (3, 1, 1, -1), (3, -1, 1, 1)])]
    return numbers + [(10, 24, 6, 2), (2, 40, 6, 30), (101, 33, 7, 55)]


class WholePrimesTest(unittest.TestCase):
    """Point 28."""

    def test_small_integers(self):
        for value in range(1, 3000):
            found = whole_primes(value)
            self.assertIs(type(found), list)
            self.assertTrue(all(type(part) is tuple and len(part) == 2 for part in found))
            made = 1
            for prime, power in found:
                self.assertGreater(power, 0)
                self.assertTrue(all(prime % divisor for divisor in range(2, prime)))
                made *= prime ** power
            self.assertEqual(made, value)
            self.assertEqual([prime for prime, _ in found], sorted({prime for prime, _ in found}))

    def test_examples(self):
        self.assertEqual(whole_primes(1), [])
        self.assertEqual(whole_primes(2), [(2, 1)])
        self.assertEqual(whole_primes(360), [(2, 3), (3, 2), (5, 1)])
        self.assertEqual(whole_primes(10 ** 12), [(2, 12), (5, 12)])
        self.assertEqual(whole_primes(2 ** 39), [(2, 39)])
        self.assertEqual(whole_primes(3 ** 25), [(3, 25)])
        self.assertEqual(whole_primes(999983), [(999983, 1)])
        self.assertEqual(whole_primes(999983 ** 2), [(999983, 2)])
        self.assertEqual(whole_primes(999979 * 999983), [(999979, 1), (999983, 1)])
        self.assertEqual(whole_primes(4 * 499979 * 499979), [(2, 2), (499979, 2)])
        self.assertEqual(whole_primes(9973 ** 3), [(9973, 3)])

    def test_great_primes(self):
        for prime in great_primes_below(10 ** 12, 3):
            self.assertEqual(whole_primes(prime), [(prime, 1)])
            self.assertIs(is_prime(prime), True)
        greater, lesser = great_primes_below(707106, 2)
        self.assertEqual(whole_primes(2 * lesser * greater), [(2, 1), (lesser, 1), (greater, 1)])
        half = great_primes_below(5 * 10 ** 11, 1)[0]
        self.assertEqual(whole_primes(2 * half), [(2, 1), (half, 1)])
        self.assertIs(is_prime(2 * half), False)

    def test_integers_out_of_the_bounds(self):
        for value in [0, -1, -6, -10 ** 12, 10 ** 12 + 1, 10 ** 12 + 39, 10 ** 13, 10 ** 100]:
            with self.subTest(value), self.assertRaises(InvalidQuestion):
                whole_primes(value)

    def test_is_prime(self):
        for value in range(1, 20000):
            expected = value > 1 and all(value % divisor for divisor in range(2, min(value, 142)))
            self.assertIs(is_prime(value), expected)
        for value in [999983, 999979, 1000003, 2147483647, 999999999989]:
            self.assertIs(is_prime(value), True)
        for value in [999983 ** 2, 999979 * 999983, 46337 ** 2, 10 ** 12, 10 ** 12 - 1, 2 ** 32 + 1]:
            self.assertIs(is_prime(value), False)

    def test_integers_that_look_like_primes(self):
        alike = [
            341, 561, 1105, 1729, 2047, 2821, 3277, 6601, 8911, 15841, 29341, 90751, 1373653, 1530787, 25326001, 3215031751,
            118670087467, 307768373641, 315962312077, 354864744877, 457453568161, 528929554561, 546348519181, 602248359169,
            # These look like primes for all but one of 2, 3, 5, 7 and 11.
            258503701, 5735365651, 101791396801, 7535192941, 32820067729, 490982241751, 2284453, 143168581, 283379139361,
            161304001, 15579919981, 741881186287,
        ]
        for value in alike:
            with self.subTest(value):
                self.assertTrue(any(value % divisor == 0 for divisor in range(3, 10 ** 6, 2)))
                self.assertIs(is_prime(value), False)
                self.assertGreater(sum(power for _, power in whole_primes(value)), 1)

    def test_the_great_norm_of_these_tests_is_a_prime_out_of_the_bounds(self):
        value = norm(GREAT_PRIME)
        self.assertEqual(value, 10 ** 12 + 61)
        self.assertTrue(all(value % divisor for divisor in range(3, 10 ** 6 + 1, 2)))

    def test_no_primes_out_of_the_bounds(self):
        for value in [0, 1, -1, -2, -3, -7, -999983, 10 ** 12 + 39, 10 ** 12 + 61, 2 ** 61 - 1, 10 ** 100]:
            self.assertIs(is_prime(value), False)


class PrimesOfTest(unittest.TestCase):
    """Point 29."""

    def test_examples(self):
        self.assertEqual(primes_of(2), [(2, 2, 0, 0)])
        self.assertEqual(primes_of(3), [(3, 1, -1, -1), (3, 1, -1, 1), (3, 1, 1, -1), (3, 1, 1, 1)])

    def test_all_numbers_of_small_norms(self):
        numbers = {}
        for number in small_numbers(7):
            numbers.setdefault(norm(number), []).append(number)
        for prime in (2, 3, 5, 7, 11):
            expected = {max(product(number, unit) for unit in units()) for number in numbers[prime]}
            self.assertEqual(primes_of(prime), sorted(expected))

    def test_all_primes(self):
        for prime in SMALL_PRIMES:
            found = primes_of(prime)
            self.assertIs(type(found), list)
            self.assertEqual(len(found), prime + 1 if prime > 2 else 1)
            self.assertEqual(found, sorted(set(found)))
            for number in found[::1 + prime // 20]:
                self.assertIs(type(number), tuple)
                self.assertEqual(norm(number), prime)
                self.assertEqual(canonical(number), number)

    def test_other_integers(self):
        for value in NO_SMALL_PRIMES:
            with self.subTest(value), self.assertRaises(InvalidQuestion):
                primes_of(value)


class LeftPrimesTest(unittest.TestCase):
    """Point 36."""

    def test_examples(self):
        self.assertEqual(left_primes(FIVE, 3), [])
        self.assertEqual(left_primes(FIVE, 5), [FIVE])
        self.assertEqual(left_primes((6, 0, 0, 0), 3), primes_of(3))
        self.assertEqual(left_primes((4, 4, 0, 0), 2), [TWO])
        self.assertEqual(left_primes((2, 0, 2, 0), 2), [TWO])
        self.assertEqual(left_primes(ONE, 2), [])

    def test_all_canonical_primes_are_tried(self):
        counts = {}
        for number in small_numbers(4)[::17] + [(6, 6, 0, 0), (12, 6, 6, 0), (15, 15, 5, -5), (30, 0, 0, 0), (9, 3, 3, 3)]:
            if not any(number):
                continue
            for prime in (2, 3, 5, 7, 13):
                expected = [candidate for candidate in primes_of(prime) if is_left_divisor(candidate, number)]
                self.assertEqual(left_primes(number, prime), expected)
                self.assertEqual(left_primes(list(number), prime), expected)
                counts[prime, len(expected)] = True
        for prime in (2, 3, 5):
            self.assertEqual({many for value, many in counts if value == prime}, {0, 1, len(primes_of(prime))})

    def test_how_many_there_are(self):
        for number in sample_numbers() + great_numbers(30, 6):
            if not any(number):
                continue
            for prime in (2, 3, 5, 7):
                for factor in (1, 2, 3, 5):
                    passed = times(number, factor)
                    found = left_primes(passed, prime)
                    if norm(passed) % prime:
                        self.assertEqual(found, [])
                    elif content(passed) % prime == 0:
                        self.assertEqual(found, primes_of(prime))
                    else:
                        self.assertEqual(found, [left_common(passed, (2 * prime, 0, 0, 0))])
                        self.assertEqual(norm(found[0]), prime)

    def test_great_primes(self):
        self.assertEqual(len(left_primes((2 * 997 * 10 ** 20, 0, 0, 0), 997)), 998)
        one, other = primes_of(997)[::500]
        self.assertEqual(left_primes(product(one, other), 997), [one])

    def test_errors(self):
        for wrong in NO_NUMBERS:
            for prime in (3, 4):
                with self.subTest(wrong), self.assertRaises(InvalidNumber):
                    left_primes(wrong, prime)
        for zero in (ZERO, [0, 0, 0, 0]):
            with self.assertRaises(InvalidQuestion):
                left_primes(zero, 3)
        for value in NO_SMALL_PRIMES:
            for number in [ONE, FIVE, (2 * 9 * 91 * 1009, 0, 0, 0)]:
                with self.subTest(value), self.assertRaises(InvalidQuestion):
                    left_primes(number, value)


class RowOfTest(unittest.TestCase):
    """Points 30 to 32."""

    def test_examples(self):
        self.assertEqual(row_of(FIVE, [5]), ([FIVE], ONE))
        self.assertEqual(row_of((-2, 4, 0, 0), [5]), ([FIVE], I))
        self.assertEqual(row_of((1, 1, 1, 1), []), ([], (1, 1, 1, 1)))
        self.assertEqual(row_of(I, ()), ([], I))
        self.assertEqual(row_of(product(THREE, FIVE), [3, 5]), ([THREE, FIVE], ONE))

    def test_rows_in_each_order(self):
        for number in primitive_samples():
            for order in sorted(set(permutations(primes_in(number))))[::3]:
                found = row_of(number, list(order))
                self.assertEqual([type(found), len(found), type(found[0])], [tuple, 2, list])
                row, unit = found
                self.assertEqual([norm(factor) for factor in row], list(order))
                self.assertTrue(all(type(factor) is tuple and canonical(factor) == factor for factor in row))
                self.assertTrue(type(unit) is tuple and is_unit(unit))
                self.assertEqual(product(product_of(row), unit), number)
                self.assertEqual(row_of(list(number), order), found)

    def test_there_is_just_one_row(self):
        for number in [product_of([THREE, FIVE, I]), product_of([THREE, (3, 1, -1, 1)]), product_of([TWO, THREE, FIVE])]:
            self.assertTrue(is_primitive(number))
            for order in set(permutations(primes_in(number))):
                rows = []
                for row in every(*[primes_of(prime) for prime in order]):
                    unit = left_quotient(number, product_of(row))
                    if unit is not None:
                        rows.append((list(row), unit))
                self.assertEqual(rows, [row_of(number, order)])

    def test_the_first_number_is_the_common_divisor_with_the_first_prime(self):
        for number in primitive_samples():
            for order in sorted(set(permutations(primes_in(number))))[:6]:
                if order:
                    row, unit = row_of(number, order)
                    self.assertEqual(row[0], left_common(number, (2 * order[0], 0, 0, 0)))
                    self.assertEqual((row[1:], unit), row_of(left_quotient(number, row[0]), order[1:]))

    def test_great_norms(self):
        one, other = great_primes_below(10 ** 6, 2)
        number = product(number_of_norm(one), number_of_norm(other))
        self.assertTrue(is_primitive(number))
        for order in [(one, other), (other, one)]:
            row, unit = row_of(number, order)
            self.assertEqual([norm(factor) for factor in row], list(order))
            self.assertEqual(product(product_of(row), unit), number)
        prime = great_primes_below(10 ** 12, 1)[0]
        number = number_of_norm(prime)
        row, unit = row_of(number, [prime])
        self.assertEqual(row, [canonical(number)])
        self.assertEqual(product(row[0], unit), number)

    def test_the_list_that_is_passed_stays(self):
        primes, number = [5, 3], list(product(THREE, FIVE))
        row_of(number, primes)
        self.assertEqual((primes, number), ([5, 3], list(product(THREE, FIVE))))

    def test_what_is_no_number(self):
        for wrong in NO_NUMBERS:
            for primes in ([], [3], [5, 5]):
                with self.subTest(wrong), self.assertRaises(InvalidNumber):
                    row_of(wrong, primes)

    def test_other_questions(self):
        cases = [
            (ZERO, []), (ZERO, [2]), (FIVE, []), (FIVE, [3]), (FIVE, [5, 5]), (FIVE, [1, 5]), (FIVE, [-5]), (ONE, [1]),
            (product(THREE, FIVE), [15]), (product(THREE, FIVE), [3]), (product(THREE, FIVE), [3, 5, 1]),
            (product(THREE, FIVE), [3, 3, 5]), (product(THREE, THREE), [9]), (product(THREE, THREE), [3]), ((6, 2, 2, 2), [3]),
            # Not primitive, with the right primes.
            ((6, 0, 0, 0), [3, 3]), ((4, 0, 0, 0), [2, 2]), ((4, 4, 0, 0), [2, 2, 2]), (times(FIVE, 3), [3, 3, 5]),
            # Norms above the bound: their own primes or others.
            (GREAT_PRIME, [10 ** 12 + 61]), (GREAT_PRIME, []), (product(TWO, number_of_norm(10 ** 12 - 11)), [2, 10 ** 12 - 11]),
        ]
        for number, primes in cases:
            for passed in (number, list(number)):
                with self.subTest(number, primes=primes), self.assertRaises(InvalidQuestion):
                    row_of(passed, primes)


class NumberByTest(unittest.TestCase):
    """Point 32, the way back."""

    def test_products(self):
        self.assertEqual(number_by([], ONE), ONE)
        self.assertEqual(number_by((), [1, 1, 1, 1]), (1, 1, 1, 1))
        self.assertEqual(number_by([FIVE], I), (-2, 4, 0, 0))
        self.assertEqual(number_by([THREE, FIVE], I), product(product(THREE, FIVE), I))
        for number in primitive_samples():
            self.assertEqual(number_by(*row_of(number, primes_in(number))), number)

    def test_any_numbers_may_stand_in_the_row(self):
        row = [[2, 4, 6, 8], ZERO, (1, 1, 1, 1)]
        self.assertEqual(number_by(row, I), ZERO)
        self.assertEqual(number_by([(2, 4, 6, 8), GREAT_PRIME], I), product(product((2, 4, 6, 8), GREAT_PRIME), I))
        self.assertEqual(row, [[2, 4, 6, 8], ZERO, (1, 1, 1, 1)])
        self.assertIs(type(number_by([[2, 4, 6, 8]], [2, 0, 0, 0])), tuple)

    def test_what_is_no_unit(self):
        for wrong in [ZERO, TWO, (4, 0, 0, 0), (1, 1, 1, 3), [0, 0, 0, 0]]:
            for row in ([], [FIVE], [ZERO]):
                with self.subTest(wrong), self.assertRaises(InvalidQuestion):
                    number_by(row, wrong)

    def test_what_is_no_number(self):
        for wrong in NO_NUMBERS:
            for row, unit in [([wrong], ONE), ([FIVE, wrong], TWO), ([], wrong), ([FIVE], wrong), ([ZERO], wrong)]:
                with self.subTest(wrong), self.assertRaises(InvalidNumber):
                    number_by(row, unit)


class MovedTest(unittest.TestCase):
    """Point 33."""

    ROW = [THREE, FIVE, TWO, (3, 1, -1, 1)]

    def test_moving_at_each_place(self):
        for unit in units():
            for place in (1, 2, 3):
                found = moved(self.ROW, place, unit)
                expected = list(self.ROW)
                expected[place - 1] = product(expected[place - 1], unit)
                expected[place] = product(conjugate(unit), expected[place])
                self.assertEqual(found, expected)
                self.assertEqual(product_of(found), product_of(self.ROW))
                self.assertEqual(found == self.ROW, unit == ONE)

    def test_example(self):
        self.assertEqual(moved([FIVE, FIVE], 1, I), [(-2, 4, 0, 0), (2, -4, 0, 0)])
        self.assertEqual(moved([TWO, THREE], 1, (1, 1, 1, 1)), [(0, 2, 0, 2), (3, -1, -1, -1)])

    def test_a_new_list_of_tuples(self):
        row = [list(factor) for factor in self.ROW]
        found = moved(row, 2, [0, 2, 0, 0])
        self.assertEqual(row, [list(factor) for factor in self.ROW])
        self.assertEqual([type(found)] + [type(factor) for factor in found], [list] + [tuple] * 4)
        self.assertEqual(moved(tuple(self.ROW), 2, I), found)
        found.clear()
        self.assertEqual(len(row), 4)

    def test_places_that_are_none_or_have_no_next_one(self):
        for place in (-4, -1, 0, 4, 5, 100):
            with self.subTest(place), self.assertRaises(InvalidQuestion):
                moved(self.ROW, place, ONE)
        for row in ([], [FIVE]):
            for place in (-1, 0, 1, 2):
                with self.subTest(place, row=row), self.assertRaises(InvalidQuestion):
                    moved(row, place, ONE)

    def test_what_is_no_unit(self):
        for wrong in [ZERO, TWO, (4, 0, 0, 0), (1, 1, 1, 3), [0, 0, 0, 0]]:
            with self.subTest(wrong), self.assertRaises(InvalidQuestion):
                moved(self.ROW, 1, wrong)

    def test_norms_that_are_no_primes(self):
        for wrong in NO_PRIME_NORMS:
            for row in ([FIVE, wrong], [wrong, FIVE], [FIVE, FIVE, wrong]):
                with self.subTest(row=row), self.assertRaises(InvalidQuestion):
                    moved(row, 1, ONE)

    def test_what_is_no_number_comes_first(self):
        for wrong in NO_NUMBERS:
            for row, place, unit in [
                ([wrong, FIVE], 1, ONE), ([FIVE, wrong], 1, ONE), ([ZERO, wrong], 1, ONE), ([wrong], 5, TWO),
                ([FIVE, FIVE], 1, wrong), ([FIVE, FIVE], 0, wrong), ([ZERO, ONE], 1, wrong), ([], 1, wrong),
            ]:
                with self.subTest(wrong, row=row), self.assertRaises(InvalidNumber):
                    moved(row, place, unit)


class RowOfFactorsTest(unittest.TestCase):
    """Point 34."""

    def rows(self):
        found = []
        for at in range(24):
            row = [product(units()[(5 * at + place) % 24], factor) for place, factor in enumerate(MovedTest.ROW[:at % 5])]
            found.append([product(factor, units()[(7 * at + 3) % 24]) for factor in row])
        return found + [[THREE, conjugate(THREE)], [(1, 3, 1, 1), (1, -3, -1, -1), (0, 2, 2, 0)]]

    def test_examples(self):
        self.assertEqual(row_of_factors([THREE]), ([THREE], ONE))
        self.assertEqual(row_of_factors([]), ([], ONE))
        self.assertEqual(row_of_factors(()), ([], ONE))
        self.assertEqual(row_of_factors([(-2, 4, 0, 0)]), ([FIVE], I))

    def test_rows_become_canonical(self):
        for row in self.rows():
            found = row_of_factors(row)
            self.assertEqual([type(found), len(found), type(found[0])], [tuple, 2, list])
            made, unit = found
            self.assertEqual([norm(factor) for factor in made], [norm(factor) for factor in row])
            self.assertTrue(all(type(factor) is tuple and factor == max(associates(factor)) for factor in made))
            self.assertTrue(type(unit) is tuple and is_unit(unit))
            self.assertEqual(product(product_of(made), unit), product_of(row))
            self.assertEqual(row_of_factors([*made, product(unit, FIVE)])[0][:-1], made)

    def test_the_unit_is_moved_to_the_next_one(self):
        for row in self.rows():
            expected, unit = [], ONE
            for factor in row:
                ahead = product(unit, factor)
                expected.append(canonical(ahead))
                unit = next(other for other in units() if product(expected[-1], other) == ahead)
            self.assertEqual(row_of_factors(row), (expected, unit))
            self.assertEqual(row_of_factors([list(factor) for factor in row]), (expected, unit))

    def test_rows_of_primitive_numbers(self):
        for number in primitive_samples():
            if not primes_in(number):
                continue
            row, unit = row_of(number, primes_in(number))
            self.assertEqual(row_of_factors([*row[:-1], product(row[-1], unit)]), (row, unit))

    def test_moving_units_changes_neither(self):
        for row in self.rows():
            for place in range(1, len(row)):
                for unit in units()[::5]:
                    other = moved(row, place, unit)
                    self.assertEqual(row_of_factors(other), row_of_factors(row))
                    self.assertIs(same_factoring(row, other), True)
                    self.assertIs(same_factoring([list(factor) for factor in other], tuple(row)), True)

    def test_other_rows_are_other_factorings(self):
        row = [THREE, FIVE, TWO]
        self.assertIs(same_factoring(row, row), True)
        self.assertIs(same_factoring([], []), True)
        for other in [
            [], [THREE], [THREE, FIVE], [THREE, TWO, FIVE], [FIVE, THREE, TWO], [*row, TWO], [TWO, *row],
            [THREE, FIVE, product(TWO, I)], [THREE, FIVE, opposite(TWO)], [product(I, THREE), FIVE, TWO],
            [(3, 1, 1, -1), FIVE, TWO], [THREE, (4, 0, 2, 0), TWO], [product(THREE, J), product(FIVE, opposite(J)), TWO],
        ]:
            with self.subTest(other=other):
                self.assertIs(same_factoring(row, other), False)
                self.assertIs(same_factoring(other, row), False)

    def test_one_number_by_other_rows(self):
        number = product(THREE, FIVE)
        one, other = row_of(number, [3, 5]), row_of(number, [5, 3])
        rows = [[row[0], product(row[1], unit)] for row, unit in (one, other)]
        self.assertEqual(product_of(rows[0]), product_of(rows[1]))
        self.assertIs(same_factoring(*rows), False)

    def test_same_factoring_by_all_moves(self):
        row = [THREE, (3, 1, 1, -1)]
        reached = {tuple(moved(row, 1, unit)) for unit in units()}
        for one in associates(THREE):
            for other in associates((3, 1, 1, -1))[::5] + [product(unit, (3, 1, 1, -1)) for unit in units()]:
                self.assertIs(same_factoring(row, [one, other]), (one, other) in reached)

    def test_great_norms(self):
        prime = great_primes_below(10 ** 12, 1)[0]
        number = number_of_norm(prime)
        row, unit = row_of_factors([number, number])
        self.assertEqual([norm(factor) for factor in row], [prime, prime])
        self.assertEqual(product(product_of(row), unit), product(number, number))

    def test_norms_that_are_no_primes(self):
        for wrong in NO_PRIME_NORMS:
            for row in ([wrong], [FIVE, wrong], [list(wrong), FIVE]):
                with self.subTest(row=row), self.assertRaises(InvalidQuestion):
                    row_of_factors(row)
                for one, other in [(row, []), ([], row), (row, [FIVE]), ([FIVE], row), (row, row)]:
                    with self.subTest(one=one, other=other), self.assertRaises(InvalidQuestion):
                        same_factoring(one, other)

    def test_what_is_no_number(self):
        for wrong in NO_NUMBERS:
            for row in ([wrong], [FIVE, wrong], [list(wrong), FIVE], [ZERO, wrong], [GREAT_PRIME, wrong]):
                with self.subTest(row=row), self.assertRaises(InvalidNumber):
                    row_of_factors(row)
                for one, other in [(row, []), ([], row), (row, [ZERO]), ([ZERO], row), ([FIVE, ONE], row)]:
                    with self.subTest(one=one, other=other), self.assertRaises(InvalidNumber):
                        same_factoring(one, other)

    def test_numbers_in_samples_are_numbers(self):
        self.assertTrue(all(is_number(factor) for row in self.rows() for factor in row))


if __name__ == "__main__":
    unittest.main()
