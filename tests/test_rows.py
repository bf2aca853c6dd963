"""Points 35 and 37 to 42: reduced rows, factorings, and how many there are."""

import unittest
from itertools import permutations, product as every

from samples import (
    GREAT_PRIME, NO_NUMBERS, NO_PRIME_NORMS, ONE, ZERO, great_numbers, great_primes_below, number_of_norm, primes_in,
    small_numbers,
)

from turnprimes.dividing import left_quotient
from turnprimes.errors import InvalidNumber, InvalidQuestion, TooMany
from turnprimes.factors import primes_of, row_of, row_of_factors
from turnprimes.numbers import (
    associates, canonical, conjugate, is_primitive, is_unit, norm, opposite, product, product_of, times, units,
)
from turnprimes.rows import (
    cancels, check_factoring, factoring_count, factorings, is_reduced_row, order_count, shows_primitive,
)

I = (0, 2, 0, 0)
THREE = (3, 1, 1, 1)
OTHER_THREE = (3, 1, 1, -1)
FIVE = (4, 2, 0, 0)
TWO = (2, 2, 0, 0)


def partner(factor):
    """The canonical number that cancels behind a canonical one."""
    return canonical(conjugate(factor))


def rows_by_search(number, primes):
    """All rows of canonical numbers with these norms that make the number with a unit behind them."""
    found = []
    for row in every(*[primes_of(prime) for prime in primes]):
        unit = left_quotient(number, product_of(row))
        if unit is not None:
            found.append((list(row), unit))
    return found


class CancelsTest(unittest.TestCase):
    """Point 37."""

    def test_examples(self):
        self.assertIs(cancels(THREE, conjugate(THREE)), True)
        self.assertIs(cancels(THREE, OTHER_THREE), False)
        self.assertIs(cancels(THREE, FIVE), False)
        self.assertIs(cancels(TWO, TWO), True)
        self.assertIs(cancels(FIVE, FIVE), False)
        self.assertIs(cancels(FIVE, [4, -2, 0, 0]), True)

    def test_what_cancels_is_an_associate_of_the_conjugate(self):
        numbers = [number for number in small_numbers(4)[::5] if norm(number) in (2, 3, 5, 7, 11)]
        found = set()
        for one in numbers[::7]:
            for other in numbers + associates(conjugate(one)) + [product(unit, conjugate(one)) for unit in units()]:
                expected = other in associates(conjugate(one))
                self.assertIs(cancels(one, other), expected)
                self.assertIs(cancels(list(one), list(other)), expected)
                found.add((norm(one) == norm(other), expected))
        self.assertEqual(found, {(True, True), (True, False), (False, False)})

    def test_norms_are_the_same_and_the_product_is_divided(self):
        for prime in (2, 3, 5, 7):
            for one in primes_of(prime):
                cancelling = [other for other in primes_of(prime) if cancels(one, other)]
                self.assertEqual(cancelling, [partner(one)])
                divided = [part // prime for part in product(one, partner(one))]
                self.assertEqual(times(divided, prime), product(one, partner(one)))
                self.assertEqual(norm(divided), 1)

    def test_great_norms(self):
        number = number_of_norm(great_primes_below(10 ** 12, 1)[0])
        self.assertIs(cancels(number, product(conjugate(number), I)), True)
        self.assertIs(cancels(number, number), False)

    def test_errors(self):
        for wrong in NO_PRIME_NORMS:
            for one, other in [(wrong, THREE), (THREE, wrong), (wrong, wrong), (list(wrong), THREE)]:
                with self.subTest(one=one, other=other), self.assertRaises(InvalidQuestion):
                    cancels(one, other)
        for wrong in NO_NUMBERS:
            for one, other in [(wrong, THREE), (THREE, wrong), (ZERO, wrong), (wrong, ONE), (GREAT_PRIME, wrong)]:
                with self.subTest(one=one, other=other), self.assertRaises(InvalidNumber):
                    cancels(one, other)


class ReducedRowsTest(unittest.TestCase):
    """Point 38."""

    def test_examples(self):
        self.assertIs(is_reduced_row([]), True)
        self.assertIs(is_reduced_row([THREE]), True)
        self.assertIs(is_reduced_row([THREE, THREE]), is_primitive(product(THREE, THREE)))
        self.assertIs(is_reduced_row([THREE, partner(THREE)]), False)
        self.assertIs(is_reduced_row([FIVE, THREE, partner(THREE)]), False)
        self.assertIs(is_reduced_row([THREE, partner(THREE), FIVE]), False)
        self.assertIs(is_reduced_row([THREE, FIVE, partner(THREE)]), True)
        self.assertIs(is_reduced_row([TWO, TWO]), False)
        self.assertIs(is_reduced_row([TWO, THREE, TWO]), True)

    def test_no_two_neighbours_cancel(self):
        found = set()
        numbers = primes_of(3) + [FIVE, partner(FIVE), TWO]
        for many in (2, 3):
            for row in every(numbers, repeat=many):
                expected = not any([cancels(one, other) for one, other in zip(row, row[1:])])
                self.assertIs(is_reduced_row(row), expected)
                self.assertIs(is_reduced_row([list(factor) for factor in row]), expected)
                found.add(expected)
        self.assertEqual(found, {True, False})

    def test_rows_of_primitive_numbers_are_reduced(self):
        for number in [number for number in small_numbers(5)[::83] if any(number)] + [product_of([THREE, FIVE] * 3)]:
            if is_primitive(number):
                for order in sorted(set(permutations(primes_in(number))))[::5]:
                    self.assertIs(is_reduced_row(row_of(number, order)[0]), True)

    def test_rows_that_show_primitive_numbers(self):
        self.assertIs(shows_primitive([]), True)
        self.assertIs(shows_primitive([THREE]), True)
        self.assertIs(shows_primitive([TWO, THREE, OTHER_THREE, FIVE]), True)
        self.assertIs(shows_primitive([THREE, FIVE, OTHER_THREE]), False)
        self.assertIs(shows_primitive([THREE, THREE, FIVE, FIVE, THREE]), False)
        self.assertIs(shows_primitive([THREE, partner(THREE)]), False)
        self.assertIs(shows_primitive([FIVE, THREE, partner(THREE)]), False)
        self.assertIs(shows_primitive([TWO, TWO]), False)
        self.assertIs(shows_primitive(([3, 1, 1, 1], FIVE)), True)

    def test_products_of_such_rows_are_primitive(self):
        numbers = primes_of(3) + [FIVE, partner(FIVE), TWO]
        for row in every(numbers, repeat=3):
            norms = [norm(factor) for factor in row]
            apart = norms[0] == norms[2] != norms[1]
            self.assertIs(shows_primitive(row), is_reduced_row(row) and not apart)
            if shows_primitive(row):
                self.assertIs(is_primitive(product_of(row)), True)

    def test_reduced_rows_whose_product_is_not_primitive(self):
        found = 0
        for row in every(primes_of(3), primes_of(5), primes_of(3)):
            self.assertIs(is_reduced_row(row), True)
            self.assertIs(shows_primitive(row), False)
            found += not is_primitive(product_of(row))
        # Behind each two numbers just one number of norm 3 gives a product that is not primitive.
        self.assertEqual(found, 4 * 6)

    def test_errors(self):
        for action in (is_reduced_row, shows_primitive):
            for wrong in NO_PRIME_NORMS + [opposite(THREE), (0, 2, 2, 0), product(FIVE, I), (2, 2, 2, 0)]:
                for row in ([wrong], [THREE, wrong], [wrong, THREE], [list(wrong)], [THREE, partner(THREE), wrong]):
                    with self.subTest(row=row), self.assertRaises(InvalidQuestion):
                        action(row)
            for wrong in NO_NUMBERS:
                for row in ([wrong], [THREE, wrong], [ZERO, wrong], [(2, 2, 2, 0), wrong], [THREE, partner(THREE), wrong]):
                    with self.subTest(row=row), self.assertRaises(InvalidNumber):
                        action(row)


class CheckFactoringTest(unittest.TestCase):
    """Point 39."""

    def test_factorings(self):
        self.assertIs(check_factoring(ONE, [ONE]), True)
        self.assertIs(check_factoring(I, [I]), True)
        self.assertIs(check_factoring((-2, 4, 0, 0), [FIVE, I]), True)
        self.assertIs(check_factoring([-2, 4, 0, 0], ([4, 2, 0, 0], [0, 2, 0, 0])), True)
        self.assertIs(check_factoring((6, 0, 0, 0), [THREE, conjugate(THREE), ONE]), True)
        # The numbers need not be canonical.
        self.assertIs(check_factoring(product((0, 2, 2, 0), FIVE), [(0, 2, 2, 0), product(FIVE, I), opposite(I)]), True)

    def test_other_lists(self):
        number = product(THREE, FIVE)
        self.assertIs(check_factoring(number, [THREE, FIVE, ONE]), True)
        for factors in [
            [], [ONE], [number], [number, ONE], [THREE, FIVE], [FIVE, THREE, ONE], [THREE, FIVE, I], [THREE, ONE, FIVE],
            [THREE, FIVE, ONE, ONE], [ONE, THREE, FIVE, ONE], [THREE, FIVE, opposite(ONE)], [THREE, ONE], [THREE, FIVE, ZERO],
            [THREE, product(FIVE, I), ONE], [opposite(THREE), FIVE, ONE], [ZERO, ONE], [THREE, ZERO, FIVE, ONE],
        ]:
            with self.subTest(factors):
                self.assertIs(check_factoring(number, factors), False)

    def test_norms_that_are_no_primes(self):
        for wrong in NO_PRIME_NORMS:
            self.assertIs(check_factoring(wrong, [wrong, ONE]), False)
            self.assertIs(check_factoring(product(THREE, wrong), [THREE, wrong, ONE]), False)
        self.assertIs(check_factoring((4, 0, 0, 0), [(4, 0, 0, 0), ONE]), False)

    def test_zero_has_none(self):
        for factors in [[], [ZERO], [ONE], [ZERO, ONE], [THREE, ONE]]:
            self.assertIs(check_factoring(ZERO, factors), False)

    def test_great_norms(self):
        one, other = [number_of_norm(prime) for prime in great_primes_below(10 ** 12, 2)]
        self.assertIs(check_factoring(product(one, other), [one, other, ONE]), True)
        self.assertIs(check_factoring(product(other, one), [one, other, ONE]), False)
        self.assertIs(check_factoring(GREAT_PRIME, [GREAT_PRIME, ONE]), False)
        many = [one, THREE, other, FIVE] * 20
        self.assertIs(check_factoring(product(product_of(many), I), [*many, I]), True)
        self.assertIs(check_factoring(product_of(many), [*many, I]), False)

    def test_rows_of_numbers(self):
        for number in small_numbers(5)[::97]:
            if any(number) and is_primitive(number):
                row, unit = row_of(number, primes_in(number))
                self.assertIs(check_factoring(number, [*row, unit]), True)
                self.assertIs(check_factoring(number, row), False)

    def test_what_is_no_number(self):
        for wrong in NO_NUMBERS:
            for number, factors in [
                (wrong, []), (wrong, [ONE]), (ONE, [wrong]), (ONE, [wrong, ONE]), (ONE, [ZERO, wrong]), (ZERO, [ONE, wrong]),
                (ONE, [ONE, GREAT_PRIME, wrong, ONE]), (ONE, [wrong, THREE]), (THREE, [wrong, THREE, ZERO]),
            ]:
                with self.subTest(wrong, factors=factors), self.assertRaises(InvalidNumber):
                    check_factoring(number, factors)


class FactoringsTest(unittest.TestCase):
    """Point 40."""

    def cases(self):
        numbers = [
            (6, 0, 0, 0), (10, 0, 0, 0), (4, 0, 0, 0), (12, 0, 0, 0), (4, 4, 0, 0), times(THREE, 3), times(THREE, 2),
            times(FIVE, 3), times(TWO, 3), (18, 0, 0, 0), (15, 15, 15, 15), (0, 0, 0, 2), product(THREE, FIVE), (6, 6, 6, 0),
            times(product(THREE, OTHER_THREE), 3), (0, 14, 0, 0), product(I, (6, 0, 0, 0)), product((6, 6, 6, 6), (1, 1, 1, 3)),
        ]
        for number in numbers:
            for primes in sorted(set(permutations(primes_in(number))))[::4]:
                yield number, list(primes)

    def test_examples(self):
        found = factorings((6, 0, 0, 0), [3, 3])
        self.assertEqual(len(found), 4)
        self.assertEqual([row for row, _ in found], [[factor, partner(factor)] for factor in primes_of(3)])
        self.assertEqual(factoring_count((6, 0, 0, 0), [3, 3]), 4)
        self.assertEqual(factorings(ONE, []), [([], ONE)])
        self.assertEqual(factorings((4, 0, 0, 0), [2, 2]), [([TWO, TWO], opposite(I))])
        self.assertEqual(factoring_count((1, 1, 1, 1), ()), 1)

    def test_all_rows_by_search(self):
        for number, primes in self.cases():
            found = factorings(number, primes)
            self.assertEqual(found, rows_by_search(number, primes))
            self.assertEqual(factoring_count(number, primes), len(found))
            self.assertEqual(factorings(list(number), tuple(primes)), found)

    def test_rows_are_ascending_and_make_the_number(self):
        numbers = [(54, 0, 0, 0), (42, 0, 0, 0), times(product(THREE, FIVE), 15), (36, 12, 0, 24), (63, 21, 21, 105)]
        for number in numbers:
            for primes in [primes_in(number), primes_in(number)[::-1]]:
                found = factorings(number, primes)
                self.assertEqual(found, sorted(found))
                self.assertEqual(len(found), factoring_count(number, primes))
                for row, unit in found:
                    self.assertIs(type(row), list)
                    self.assertEqual([norm(factor) for factor in row], primes)
                    self.assertTrue(all(type(factor) is tuple and canonical(factor) == factor for factor in row))
                    self.assertTrue(type(unit) is tuple and is_unit(unit))
                    self.assertEqual(product(product_of(row), unit), number)
                    self.assertEqual(row_of_factors(row)[0], row)
                self.assertEqual(len({tuple(row) for row, _ in found}), len(found))

    def test_primitive_numbers_have_just_one(self):
        for number in small_numbers(5)[::83] + [product_of([THREE, FIVE] * 4)]:
            if any(number) and is_primitive(number):
                primes = primes_in(number)
                self.assertEqual(factorings(number, primes), [row_of(number, primes)])
                self.assertEqual(factoring_count(number, primes, limit=1), 1)

    def test_counts_do_not_depend_on_the_order(self):
        for number in [(30, 0, 0, 0), times(FIVE, 3), times(product(THREE, THREE), 3), times(product(THREE, TWO), 3)]:
            counts = {factoring_count(number, primes) for primes in set(permutations(primes_in(number)))}
            self.assertEqual(len(counts), 1)

    def test_limits(self):
        for number, primes in [((6, 0, 0, 0), [3, 3]), ((30, 0, 0, 0), [3, 5, 5, 3]), (ONE, []), ((54, 0, 0, 0), [3] * 6)]:
            many = factoring_count(number, primes)
            self.assertEqual(factoring_count(number, primes, limit=many), many)
            self.assertEqual(len(factorings(number, primes, limit=many)), many)
            for limit in (many - 1, 0):
                for action in (factorings, factoring_count):
                    with self.subTest(number, limit=limit), self.assertRaises(TooMany) as caught:
                        action(number, primes, limit=limit)
                    self.assertEqual(caught.exception.limit, limit)

    def test_the_limit_is_2000_if_none_is_told(self):
        # 4 times 6 times 8 times 12 rows, then 4 times 6 times 84, then 4 times 500.
        for action in (factorings, factoring_count):
            with self.assertRaises(TooMany) as caught:
                action((2 * 3 * 5 * 7 * 11, 0, 0, 0), [3, 3, 5, 5, 7, 7, 11, 11])
            self.assertEqual(caught.exception.limit, 2000)
        self.assertEqual(factoring_count((2 * 3 * 5 * 83, 0, 0, 0), [3, 3, 5, 5, 83, 83], limit=2016), 2016)
        with self.assertRaises(TooMany):
            factoring_count((2 * 3 * 5 * 83, 0, 0, 0), [3, 3, 5, 5, 83, 83])
        self.assertEqual(factoring_count((2 * 3 * 499, 0, 0, 0), [499, 3, 499, 3]), 2000)
        self.assertEqual(len(factorings((2 * 3 * 499, 0, 0, 0), [499, 3, 499, 3])), 2000)

    def test_too_many_rows_are_not_looked_for(self):
        number = (2 * 7 ** 6, 0, 0, 0)
        for limit in (2000, 20000):
            with self.assertRaises(TooMany):
                factorings(number, [7] * 12, limit=limit)
        self.assertEqual(factoring_count((2 * 7 ** 2, 0, 0, 0), [7] * 4), 120)
        self.assertEqual(len(factorings((2 * 2 ** 19, 0, 0, 0), [2] * 38)), 1)

    def test_primes_that_are_not_those_of_the_norm(self):
        for number, primes in [
            (FIVE, []), (FIVE, [3]), (FIVE, [5, 5]), (FIVE, [1, 5]), ((6, 0, 0, 0), [3]), ((6, 0, 0, 0), [9]), (ONE, [1]),
            ((6, 0, 0, 0), [3, 3, 3]), ((30, 0, 0, 0), [3, 5, 3]), ((30, 0, 0, 0), [15, 15]), (ZERO, []), (ZERO, [2]),
            (FIVE, [-5]), ((6, 0, 0, 0), [-3, -3]),
        ]:
            for action in (factorings, factoring_count):
                with self.subTest(number, primes=primes), self.assertRaises(InvalidQuestion):
                    action(number, primes)
                with self.subTest(number, primes=primes), self.assertRaises(InvalidQuestion):
                    action(number, primes, limit=0)

    def test_primes_above_1000_and_norms_above_the_bound(self):
        great = number_of_norm(1009)
        self.assertEqual(len(factorings(number_of_norm(997), [997])), 1)
        for number, primes in [
            (great, [1009]), (product(THREE, great), [3, 1009]), (product(THREE, great), [1009, 3]),
            (GREAT_PRIME, [10 ** 12 + 61]), ((2 * 10 ** 7, 0, 0, 0), [2, 5] * 14), (times(great, 3), [3, 3, 1009]),
        ]:
            for action in (factorings, factoring_count):
                with self.subTest(number, primes=primes), self.assertRaises(InvalidQuestion):
                    action(number, primes)
                with self.subTest(number, primes=primes), self.assertRaises(InvalidQuestion):
                    action(number, primes, limit=0)

    def test_what_is_no_number(self):
        for wrong in NO_NUMBERS:
            for action in (factorings, factoring_count):
                for primes in ([], [3, 3], [1009]):
                    with self.subTest(wrong), self.assertRaises(InvalidNumber):
                        action(wrong, primes, limit=0)

    def test_what_is_passed_stays_and_new_lists_are_returned(self):
        number, primes = [6, 0, 0, 0], [3, 3]
        found = factorings(number, primes)
        found[0][0].clear()
        self.assertEqual((number, primes), ([6, 0, 0, 0], [3, 3]))
        self.assertEqual(len(factorings(number, primes)[0][0]), 2)


class OrderCountTest(unittest.TestCase):
    """Point 35."""

    def test_examples(self):
        self.assertEqual(order_count(ONE), 1)
        self.assertEqual(order_count([1, 1, 1, 1]), 1)
        self.assertEqual(order_count(FIVE), 1)
        self.assertEqual(order_count((6, 0, 0, 0)), 1)
        self.assertEqual(order_count(product(THREE, FIVE)), 2)
        self.assertEqual(order_count((12, 0, 0, 0)), 6)
        self.assertEqual(order_count((60, 0, 0, 0)), 90)
        self.assertEqual(order_count((120, 0, 0, 0)), 420)

    def test_orders_are_those_of_the_primes(self):
        for number in small_numbers(6)[::53]:
            if any(number) and len(primes_in(number)) < 8:
                self.assertEqual(order_count(number), len(set(permutations(primes_in(number)))))

    def test_norms_up_to_the_bound(self):
        self.assertEqual(order_count((2 * 10 ** 6, 0, 0, 0)), 2704156)
        one, other = great_primes_below(10 ** 6, 2)
        self.assertEqual(order_count(product(number_of_norm(one), number_of_norm(other))), 2)
        for number in [(2 * 10 ** 6, 2, 0, 0), GREAT_PRIME, (2 * 10 ** 7, 0, 0, 0), great_numbers(40, 1)[0]]:
            with self.subTest(number), self.assertRaises(InvalidQuestion):
                order_count(number)

    def test_errors(self):
        for zero in (ZERO, [0, 0, 0, 0]):
            with self.assertRaises(InvalidQuestion):
                order_count(zero)
        for wrong in NO_NUMBERS:
            with self.subTest(wrong), self.assertRaises(InvalidNumber):
                order_count(wrong)


if __name__ == "__main__":
    unittest.main()
