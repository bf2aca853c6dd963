"""Points 92 to 102: numbers modulo an odd prime as tables."""

import unittest
from itertools import product as every
from math import isqrt

from samples import NO_NUMBERS, ONE, ZERO, great_numbers, number_of_norm, sample_numbers, small_numbers

from turnprimes.common import left_common
from turnprimes.dividing import is_left_divisor
from turnprimes.errors import InvalidNumber, InvalidQuestion
from turnprimes.factors import primes_of, row_of
from turnprimes.numbers import (
    added, associates, canonical, content, is_primitive, is_whole, less, norm, product, product_of, times, units,
)
from turnprimes.tables import (
    determinant, divides_by_lines, line_of, lines, number_of_table, prime_of_line, root_pair, root_pairs, table_of,
    table_product,
)

I = (0, 2, 0, 0)
THREE = (3, 1, 1, 1)
FIVE = (4, 2, 0, 0)
PRIMES = [value for value in range(3, 110) if all(value % divisor for divisor in range(2, value))]
NO_PRIMES = [0, 1, 2, -1, -2, -3, -7, 4, 9, 15, 91, 561, 9999, 10 ** 4, 10 ** 4 + 1, 10007, 10009, 10 ** 12 - 11, 10 ** 30]
GREAT = 9973

NO_TABLES = [
    (), ((1, 2),), ((0, 0), (0, 0), (0, 0)), ((1, 2), (1,)), ((1,), (1, 2)), ((1, 2, 0), (1, 2, 0)), ((), ()),
    ((0, 0), (0, 3)), ((3, 0), (0, 0)), ((0, -1), (0, 0)), ((0, 0), (-1, 0)), ((0, 10 ** 30), (0, 0)), [[0, 0], [0]],
    [[1, 1], [3, 1]], ((1, 2), (0, 4)), ((1, 2), (0, 1), ()),
]
NO_LINES = [
    (), (1,), (0,), (0, 0), (0, 2), (2, 1), (1, 3), (1, -1), (-1, 0), (0, -1), (1, 4), (1, 2, 0), (0, 1, 0), [1, 3],
    [0, 0], (2, 2), (10 ** 30, 1), (1, 10 ** 30), (3, 1), (0, 4),
]
WITH_PRIMES = {
    "root_pair": root_pair,
    "root_pairs": root_pairs,
    "table_of": lambda prime: table_of(ONE, prime),
    "table_product": lambda prime: table_product(((0, 0), (0, 0)), ((0, 0), (0, 0)), prime),
    "determinant": lambda prime: determinant(((0, 0), (0, 0)), prime),
    "number_of_table": lambda prime: number_of_table(((0, 0), (0, 0)), prime),
    "lines": lines,
    "line_of": lambda prime: line_of(ONE, prime),
    "prime_of_line": lambda prime: prime_of_line(prime, (0, 1)),
}


def all_tables(prime):
    rows = list(every(range(prime), repeat=2))
    return list(every(rows, repeat=2))


def some_numbers():
    return small_numbers(3)[::23] + sample_numbers()[::3] + great_numbers(50, 4) + [ZERO, ONE]


def prime_above(value):
    """A number whose norm is the least prime above an integer."""
    value += 1
    while any(value % divisor == 0 for divisor in range(2, isqrt(value) + 1)):
        value += 1
    return number_of_norm(value)


def lies_on(column, line, prime):
    return (column[0] * line[1] - column[1] * line[0]) % prime == 0


def divides(prime, number):
    """Whether an odd prime divides all parts of a number."""
    return all(part % prime == 0 for part in number)


class RootPairsTest(unittest.TestCase):
    """Point 92."""

    def test_examples(self):
        self.assertEqual(root_pair(3), (1, 1))
        self.assertEqual(root_pair(5), (0, 2))
        self.assertEqual(root_pairs(3), [(1, 1), (1, 2), (2, 1), (2, 2)])
        self.assertEqual(root_pairs(5), [(0, 2), (0, 3), (2, 0), (3, 0)])

    def test_all_pairs(self):
        for prime in PRIMES:
            expected = [(x, y) for x in range(prime) for y in range(prime) if (x * x + y * y + 1) % prime == 0]
            self.assertEqual(root_pairs(prime), expected)
            self.assertEqual(root_pair(prime), expected[0])
            self.assertEqual(len(expected), prime + 1 if prime % 4 == 3 else prime - 1)

    def test_pairs_with_0(self):
        for prime in PRIMES:
            self.assertEqual(root_pair(prime)[0] == 0, prime % 4 == 1)
            self.assertEqual(sum(0 in pair for pair in root_pairs(prime)), 4 if prime % 4 == 1 else 0)

    def test_great_primes(self):
        for prime in (9949, 9967, 9973):
            pairs = root_pairs(prime)
            self.assertEqual(len(set(pairs)), prime + 1 if prime % 4 == 3 else prime - 1)
            self.assertEqual(pairs, sorted(pairs))
            self.assertEqual(pairs[0], root_pair(prime))
            self.assertTrue(all((x * x + y * y + 1) % prime == 0 and 0 <= x < prime > y >= 0 for x, y in pairs))

    def test_new_lists_of_tuples(self):
        found = root_pairs(3)
        self.assertEqual((type(found), type(found[0]), type(root_pair(3))), (list, tuple, tuple))
        found.clear()
        self.assertEqual(len(root_pairs(3)), 4)


class TablesTest(unittest.TestCase):
    """Points 93 to 95."""

    def test_examples(self):
        self.assertEqual(table_of(I, 3), ((1, 1), (1, 2)))
        self.assertEqual(table_of((0, 0, 2, 0), 3), ((0, 2), (1, 0)))
        self.assertEqual(table_of(ONE, 3), ((1, 0), (0, 1)))
        self.assertEqual(table_of((0, 0, 0, 2), 3), ((1, 2), (2, 2)))
        self.assertEqual(table_of((1, 1, 1, 1), 5), ((4, 3), (4, 2)))
        self.assertEqual(table_of(ZERO, 7), ((0, 0), (0, 0)))

    def test_tables_by_their_parts(self):
        for prime in PRIMES[:12] + [GREAT]:
            x, y = root_pair(prime)
            for number in some_numbers():
                a, b, c, d = [part * ((prime + 1) // 2) for part in number]
                expected = ((a + b * x + d * y, b * y - c - d * x), (b * y + c - d * x, a - b * x - d * y))
                expected = tuple(tuple(part % prime for part in row) for row in expected)
                self.assertEqual(table_of(number, prime), expected)
                self.assertEqual(table_of(list(number), prime), expected)

    def test_tables_are_tuples(self):
        found = table_of([4, 2, 0, 0], 3)
        self.assertEqual([type(found)] + [type(row) for row in found], [tuple] * 3)
        found = table_product([[1, 2], [0, 1]], [[1, 1], [1, 0]], 3)
        self.assertEqual([type(found)] + [type(row) for row in found], [tuple] * 3)

    def test_products(self):
        self.assertEqual(table_product(((1, 2), (3, 4)), ((0, 1), (1, 0)), 5), ((2, 1), (4, 3)))
        self.assertEqual(table_product(((0, 1), (1, 0)), ((1, 2), (3, 4)), 5), ((3, 4), (1, 2)))
        self.assertEqual(table_product([[4, 4], [4, 4]], [[4, 4], [4, 4]], 5), ((2, 2), (2, 2)))
        for prime in (3, 5, 7, 13, GREAT):
            for one, other in every(some_numbers()[::3], some_numbers()[::4]):
                tables = [table_of(one, prime), table_of(other, prime)]
                self.assertEqual(table_product(*tables, prime), table_of(product(one, other), prime))

    def test_determinants(self):
        self.assertEqual(determinant(((1, 2), (3, 4)), 5), 3)
        self.assertEqual(determinant([[0, 1], [1, 0]], 7), 6)
        for prime in (3, 5, 7, 13, 101, GREAT):
            for number in some_numbers():
                self.assertEqual(determinant(table_of(number, prime), prime), norm(number) % prime)
        for table in all_tables(3):
            (a, b), (c, d) = table
            self.assertEqual(determinant(table, 3), (a * d - b * c) % 3)

    def test_one_number_for_each_table(self):
        for prime in (3, 5):
            found = set()
            for table in all_tables(prime):
                number = number_of_table(table, prime)
                self.assertIs(type(number), tuple)
                self.assertTrue(is_whole(number) and all(0 <= part < 2 * prime for part in number))
                self.assertEqual(table_of(number, prime), table)
                self.assertEqual(number_of_table([list(row) for row in table], prime), number)
                found.add(number)
            self.assertEqual(len(found), prime ** 4)

    def test_numbers_of_tables_of_great_primes(self):
        for prime in (7, 11, 97, 101, GREAT, 9967):
            for parts in [(0, 0, 0, 0), (1, 2, 3, 4), (prime - 1, 0, 5, 6), (prime - 1,) * 4, (0, prime // 2, 1, prime - 2)]:
                number = tuple(2 * part for part in parts)
                if max(parts) < prime:
                    self.assertEqual(number_of_table(table_of(number, prime), prime), number)
        self.assertEqual(number_of_table(((1, 0), (0, 1)), 5), ONE)
        self.assertEqual(number_of_table(((1, 1), (1, 2)), 3), I)

    def test_tables_are_the_same_if_the_prime_divides_the_difference(self):
        for prime in (3, 5, 13):
            for one, other in every(some_numbers()[::2], some_numbers()[::3]):
                same = table_of(one, prime) == table_of(other, prime)
                self.assertEqual(same, divides(prime, less(one, other)))
            for one, other in every(some_numbers()[::5], repeat=2):
                self.assertEqual(table_of(added(one, times(other, prime)), prime), table_of(one, prime))


class LinesTest(unittest.TestCase):
    """Points 96 to 98."""

    def test_lines(self):
        self.assertEqual(lines(3), [(0, 1), (1, 0), (1, 1), (1, 2)])
        for prime in [*PRIMES, GREAT]:
            found = lines(prime)
            self.assertEqual(found, [(0, 1)] + [(1, slope) for slope in range(prime)])
            self.assertTrue(type(found) is list and all(type(line) is tuple for line in found))
        lines(3).clear()
        self.assertEqual(len(lines(3)), 4)

    def test_the_line_of_a_number(self):
        for prime in (3, 5, 7, 11):
            told = 0
            for number in small_numbers(6)[::11] + some_numbers():
                if not any(number):
                    continue
                found = line_of(number, prime)
                self.assertEqual(line_of(list(number), prime), found)
                if norm(number) % prime or divides(prime, number):
                    self.assertIsNone(found)
                    continue
                told += 1
                self.assertIs(type(found), tuple)
                columns = list(zip(*table_of(number, prime)))
                on = [line for line in lines(prime) if all(lies_on(column, line, prime) for column in columns)]
                self.assertEqual(on, [found])
            self.assertGreater(told, 10)

    def test_every_table_of_determinant_0(self):
        for prime in (3, 5):
            for table in all_tables(prime):
                number = number_of_table(table, prime)
                if not any(number):
                    continue
                on = [line for line in lines(prime) if all(lies_on(column, line, prime) for column in zip(*table))]
                self.assertEqual(line_of(number, prime), on[0] if determinant(table, prime) == 0 else None)

    def test_a_number_that_the_prime_divides(self):
        self.assertIsNone(line_of((6, 0, 0, 0), 3))
        self.assertIsNone(line_of(times(THREE, 3), 3))
        self.assertIsNone(line_of((3, 3, 3, 3), 3))
        self.assertIsNotNone(line_of(times(THREE, 5), 3))

    def test_a_number_whose_norm_it_does_not_divide(self):
        self.assertIsNone(line_of(ONE, 3))
        self.assertIsNone(line_of(FIVE, 3))
        self.assertIsNone(line_of(THREE, 5))

    def test_the_line_0_1(self):
        for prime in (3, 5, 7, 101):
            number = number_of_table(((0, 0), (2, 1)), prime)
            self.assertEqual(line_of(number, prime), (0, 1))
            self.assertEqual(line_of(number_of_table(((0, 0), (0, 1)), prime), prime), (0, 1))
            self.assertEqual(line_of(number_of_table(((0, 0), (1, 0)), prime), prime), (0, 1))
            self.assertEqual(line_of(number_of_table(((0, 2), (0, 0)), prime), prime), (1, 0))
            self.assertEqual(line_of(number_of_table(((0, 2), (0, 2)), prime), prime), (1, 1))

    def test_what_is_multiplied_behind(self):
        for prime in (3, 5, 13):
            for factor in primes_of(prime)[::3]:
                line = line_of(factor, prime)
                for number in some_numbers():
                    made = product(factor, number)
                    if any(made):
                        self.assertEqual(line_of(made, prime), None if divides(prime, made) else line)
                self.assertEqual({line_of(other, prime) for other in associates(factor)}, {line})

    def test_a_unit_ahead_can_change_the_line(self):
        self.assertTrue(any(line_of(product(unit, THREE), 3) != line_of(THREE, 3) for unit in units()))

    def test_one_canonical_number_for_each_line(self):
        for prime in PRIMES:
            numbers = primes_of(prime)
            table = {line_of(number, prime): number for number in numbers}
            self.assertEqual(sorted(table), sorted(lines(prime)))
            self.assertEqual({line: prime_of_line(prime, line) for line in lines(prime)}, table)
        self.assertEqual(prime_of_line(3, [1, 2]), prime_of_line(3, (1, 2)))

    def test_lines_of_great_primes(self):
        for prime in (997, 1009, 9967, GREAT):
            found = []
            for line in [(0, 1), (1, 0), (1, 1), [1, prime - 1], (1, prime // 2)]:
                number = prime_of_line(prime, line)
                self.assertIs(type(number), tuple)
                self.assertEqual((norm(number), canonical(number)), (prime, number))
                self.assertEqual(line_of(number, prime), tuple(line))
                found.append(number)
            self.assertEqual(len(set(found)), 5)


class DividingTest(unittest.TestCase):
    """Points 99 and 100."""

    def test_dividing_by_lines(self):
        for prime in (3, 5, 7):
            factors = primes_of(prime) + [product(factor, (1, -1, 1, 1)) for factor in primes_of(prime)[::3]]
            for number in small_numbers(3)[::7] + some_numbers():
                if not any(number):
                    continue
                for factor in factors:
                    expected = is_left_divisor(factor, number)
                    self.assertIs(divides_by_lines(factor, number), expected)
                    self.assertIs(divides_by_lines(list(factor), list(number)), expected)

    def test_examples(self):
        self.assertIs(divides_by_lines(THREE, product(THREE, FIVE)), True)
        self.assertIs(divides_by_lines(THREE, product(FIVE, THREE)), is_left_divisor(THREE, product(FIVE, THREE)))
        self.assertIs(divides_by_lines(THREE, ONE), False)
        self.assertIs(divides_by_lines(THREE, FIVE), False)
        self.assertIs(divides_by_lines(THREE, (6, 0, 0, 0)), True)
        self.assertIs(divides_by_lines(THREE, (3, 1, 1, -1)), False)
        self.assertIs(divides_by_lines(THREE, (3, 3, 3, 3)), True)

    def test_great_primes(self):
        one, other = prime_of_line(GREAT, (1, 17)), prime_of_line(GREAT, (1, 18))
        for number in great_numbers(30, 3):
            self.assertIs(divides_by_lines(one, product(one, number)), True)
            self.assertIs(divides_by_lines(other, product(one, number)), False)
            self.assertIs(divides_by_lines(one, times(number, GREAT)), True)
            self.assertIs(divides_by_lines(one, number), is_left_divisor(one, number))

    def test_the_first_number_of_a_row(self):
        numbers = [number for number in small_numbers(6)[::97] if any(number) and is_primitive(number)]
        numbers += [product_of([prime_of_line(1013, (1, 5)), THREE, FIVE])]
        told = 0
        for number in numbers:
            value = norm(number)
            primes = [prime for prime in [*PRIMES, 1013] if value % prime == 0]
            for prime in primes:
                rest, order = value // prime, [prime]
                for other in [2, *PRIMES, 1013]:
                    while rest % other == 0:
                        rest //= other
                        order.append(other)
                if rest == 1:
                    told += 1
                    first = row_of(number, order)[0][0]
                    self.assertEqual(prime_of_line(prime, line_of(number, prime)), first)
                    self.assertEqual(left_common(number, (2 * prime, 0, 0, 0)), first)
        self.assertGreater(told, 20)


class ErrorsTest(unittest.TestCase):
    """Points 101 and 102."""

    def assert_raises_just(self, error, action, *arguments):
        with self.assertRaises(error) as caught:
            action(*arguments)
        self.assertIs(type(caught.exception), error)

    def test_what_is_no_odd_prime_up_to_the_bound(self):
        for name, action in WITH_PRIMES.items():
            action(3)
            action(GREAT)
            for prime in NO_PRIMES:
                with self.subTest(name, prime=prime):
                    self.assert_raises_just(InvalidQuestion, action, prime)

    def test_what_is_no_table(self):
        good = ((1, 2), (0, 1))
        for wrong in NO_TABLES:
            with self.subTest(wrong):
                self.assert_raises_just(InvalidQuestion, table_product, wrong, good, 3)
                self.assert_raises_just(InvalidQuestion, table_product, good, wrong, 3)
                self.assert_raises_just(InvalidQuestion, determinant, wrong, 3)
                self.assert_raises_just(InvalidQuestion, number_of_table, wrong, 3)
        for prime in (3, 5, GREAT):
            most = ((prime - 1, prime - 1), (prime - 1, prime - 1))
            self.assertEqual(determinant(most, prime), 0)
            self.assert_raises_just(InvalidQuestion, determinant, ((prime, 0), (0, 0)), prime)

    def test_what_is_no_line(self):
        for wrong in NO_LINES:
            with self.subTest(wrong):
                self.assert_raises_just(InvalidQuestion, prime_of_line, 3, wrong)
        self.assert_raises_just(InvalidQuestion, prime_of_line, GREAT, (1, GREAT))
        self.assertEqual(norm(prime_of_line(5, (1, 4))), 5)

    def test_zero(self):
        for zero in (ZERO, [0, 0, 0, 0]):
            self.assert_raises_just(InvalidQuestion, line_of, zero, 3)
            self.assert_raises_just(InvalidQuestion, divides_by_lines, THREE, zero)
            self.assert_raises_just(InvalidQuestion, divides_by_lines, zero, THREE)
            self.assertEqual(table_of(zero, 3), ((0, 0), (0, 0)))

    def test_numbers_to_divide_by_whose_norm_is_no_odd_prime_up_to_the_bound(self):
        for factor in [ONE, (2, 2, 0, 0), (4, 0, 0, 0), (6, 0, 0, 0), (4, 4, 2, 0), product(THREE, FIVE),
                       prime_above(10 ** 4), great_numbers(30, 1)[0]]:
            self.assert_raises_just(InvalidQuestion, divides_by_lines, factor, THREE)
            self.assert_raises_just(InvalidQuestion, divides_by_lines, factor, ZERO)

    def test_what_is_no_number(self):
        for wrong in NO_NUMBERS:
            with self.subTest(wrong):
                self.assert_raises_just(InvalidNumber, table_of, wrong, 3)
                self.assert_raises_just(InvalidNumber, line_of, wrong, 3)
                self.assert_raises_just(InvalidNumber, divides_by_lines, wrong, THREE)
                self.assert_raises_just(InvalidNumber, divides_by_lines, THREE, wrong)

    def test_what_is_no_number_comes_first(self):
        for wrong in NO_NUMBERS:
            for prime in (2, 4, 10007, -3):
                self.assert_raises_just(InvalidNumber, table_of, wrong, prime)
                self.assert_raises_just(InvalidNumber, line_of, wrong, prime)
            for other in (ZERO, ONE, (4, 0, 0, 0)):
                self.assert_raises_just(InvalidNumber, divides_by_lines, wrong, other)
                self.assert_raises_just(InvalidNumber, divides_by_lines, other, wrong)

    def test_lists_that_are_passed_stay(self):
        table, line, number = [[1, 2], [0, 1]], [1, 2], [4, 2, 0, 0]
        table_product(table, table, 3)
        determinant(table, 3)
        number_of_table(table, 3)
        prime_of_line(3, line)
        table_of(number, 3)
        line_of(number, 5)
        divides_by_lines(number, number)
        self.assertEqual((table, line, number), ([[1, 2], [0, 1]], [1, 2], [4, 2, 0, 0]))

    def test_contents_that_the_prime_does_not_divide(self):
        number = times(product(THREE, FIVE), 10)
        self.assertEqual(content(number), 10)
        self.assertEqual(line_of(number, 3), line_of(THREE, 3))
        self.assertIs(divides_by_lines(THREE, number), True)


if __name__ == "__main__":
    unittest.main()
