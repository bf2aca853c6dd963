"""Points 18 to 27: greatest common divisors and least common multiples."""

import unittest
from itertools import permutations
from math import gcd

from samples import NO_NUMBERS, ONE, ZERO, great_numbers, sample_numbers, small_numbers

from turnprimes.common import (
    are_apart, both_sums, canonical_ahead, common_of, is_sum, least_multiple, left_common, left_sum, right_common,
    right_sum,
)
from turnprimes.dividing import is_left_divisor, is_right_divisor
from turnprimes.errors import InvalidNumber, InvalidQuestion
from turnprimes.numbers import (
    added, associates, canonical, conjugate, is_number, is_primitive, norm, product, product_of, times, units,
)

I = (0, 2, 0, 0)
SOME = (3, 1, 1, 1)

OF_TWO = {
    "left_common": left_common, "left_sum": left_sum, "right_common": right_common, "right_sum": right_sum,
    "least_multiple": least_multiple, "are_apart": are_apart,
}
OF_THREE = {"is_sum": is_sum, "both_sums": both_sums}


def pairs():
    """Pairs of numbers that are not both 0, many with common divisors."""
    numbers = sample_numbers()
    found = list(zip(numbers, numbers[7:])) + [(ZERO, SOME), (SOME, ZERO), ((2, 2, 2, 2), (4, 2, 0, 0)), (I, I)]
    shared = [number for number in small_numbers(3)[::61] + great_numbers(15, 3) if any(number)]
    for at, number in enumerate(shared):
        for one, other in list(zip(numbers, numbers[3:]))[at % 5::11]:
            found.append((product(number, one), product(number, other)))
            found.append((product(one, number), product(other, number)))
    return [(one, other) for one, other in found if any(one) or any(other)]


def common_by_search(one, other, is_divisor):
    """The common divisors of the greatest norm among the small numbers, ascending."""
    numbers = [number for number in small_numbers(6) if any(number)]
    common = [number for number in numbers if is_divisor(number, one) and is_divisor(number, other)]
    most = max([norm(number) for number in common])
    return sorted([number for number in common if norm(number) == most])


class LeftCommonTest(unittest.TestCase):
    """Points 18, 19 and 21."""

    def test_examples(self):
        self.assertEqual(left_common((6, 0, 0, 0), (2, 2, 2, 0)), (3, 1, -1, 1))
        self.assertEqual(left_common((4, 0, 0, 0), (6, 0, 0, 0)), ONE)
        self.assertEqual(left_common((12, 0, 0, 0), (0, 0, 20, 0)), (4, 0, 0, 0))

    def test_it_is_canonical_and_a_left_divisor_of_both(self):
        for one, other in pairs():
            found = left_common(one, other)
            self.assertIs(type(found), tuple)
            self.assertEqual(found, max(associates(found)))
            self.assertIs(is_left_divisor(found, one), True)
            self.assertIs(is_left_divisor(found, other), True)
            self.assertEqual(left_common(other, one), found)

    def test_it_is_a_sum_of_both(self):
        # What divides both divides the sum, so all common left divisors divide it.
        for one, other in pairs():
            found = left_sum(one, other)
            self.assertEqual([type(found)] + [type(number) for number in found], [tuple] * 4)
            common, behind_one, behind_other = found
            self.assertEqual(common, left_common(one, other))
            self.assertTrue(is_number(behind_one) and is_number(behind_other))
            self.assertEqual(added(product(one, behind_one), product(other, behind_other)), common)

    def test_common_divisors_by_search(self):
        found = set()
        for one, other in [
            ((6, 0, 0, 0), (2, 2, 2, 0)), ((2, 2, 2, 0), ZERO), ((5, 5, 5, 3), (2, 4, 6, 4)), ((4, 0, 0, 0), (2, 4, 6, 0)),
            ((4, 4, 2, 0), (6, 0, 0, 0)), ((4, 4, 2, 0), (6, 6, 0, 0)), ((4, 0, 0, 0), (8, 4, 4, 4)),
            (product(SOME, (2, 2, 0, 0)), product(SOME, (4, 2, 0, 0))),
            (product((2, 2, 0, 0), SOME), product((4, 2, 0, 0), SOME)),
        ]:
            # All numbers of a norm up to 9 are searched.
            self.assertLessEqual(gcd(norm(one), norm(other)), 9)
            self.assertEqual(left_common(one, other), common_by_search(one, other, is_left_divisor)[-1])
            self.assertEqual(right_common(one, other), common_by_search(one, other, is_right_divisor)[-1])
            found.add((norm(left_common(one, other)), norm(right_common(one, other))))
        self.assertGreaterEqual(found, {(3, 3), (4, 4), (3, 1), (1, 3)})

    def test_a_number_and_zero(self):
        for number in sample_numbers():
            if any(number):
                self.assertEqual(left_common(number, ZERO), canonical(number))
                self.assertEqual(left_common(ZERO, list(number)), canonical(number))
                common, behind, _ = left_sum(number, ZERO)
                self.assertEqual((common, product(number, behind)), (canonical(number), common))
                common, _, behind = left_sum(ZERO, number)
                self.assertEqual((common, product(number, behind)), (canonical(number), common))

    def test_associates_have_the_same(self):
        one, other = product(SOME, (2, 4, 8, 0)), product(SOME, (5, 1, -3, 1))
        for unit in units():
            self.assertEqual(left_common(product(one, unit), other), left_common(one, other))
            self.assertEqual(left_common(one, product(other, unit)), left_common(one, other))

    def test_a_number_ahead_of_both_stands_ahead_of_it(self):
        for ahead in [SOME, (2, 2, 0, 0), (1, -1, 1, 1), (4, -2, 0, 6), (0, 10 ** 20, 0, 2)]:
            for one, other in pairs()[::7]:
                found = left_common(product(ahead, one), product(ahead, other))
                self.assertEqual(found, canonical(product(ahead, left_common(one, other))))

    def test_its_conjugate_is_one_on_the_right_of_the_conjugates(self):
        for one, other in pairs():
            turned_over = conjugate(left_common(one, other))
            self.assertEqual(canonical_ahead(turned_over), right_common(conjugate(one), conjugate(other)))

    def test_great_numbers(self):
        shared, one, other = great_numbers(300, 3)
        one, other = product(shared, one), product(shared, times(other, 7))
        common, behind_one, behind_other = left_sum(one, other)
        self.assertEqual(common, left_common(one, other))
        self.assertEqual(added(product(one, behind_one), product(other, behind_other)), common)
        self.assertIs(is_left_divisor(shared, common), True)
        self.assertTrue(is_left_divisor(common, one) and is_left_divisor(common, other))


class RightCommonTest(unittest.TestCase):
    """Point 20."""

    def test_examples(self):
        self.assertEqual(right_common((6, 0, 0, 0), (2, 2, 2, 0)), canonical_ahead((2, 2, 2, 0)))
        self.assertEqual(right_common((4, 0, 0, 0), (0, 0, 4, 4)), (4, 0, 0, 0))
        one, other = product((2, 4, 0, 0), SOME), product((2, 0, 0, 2), SOME)
        self.assertEqual(right_common(one, other), canonical_ahead(SOME))
        self.assertEqual(left_common(one, other), ONE)

    def test_it_is_the_greatest_and_a_right_divisor_of_both(self):
        for one, other in pairs():
            found = right_common(one, other)
            self.assertIs(type(found), tuple)
            self.assertEqual(found, max([product(unit, found) for unit in units()]))
            self.assertIs(is_right_divisor(found, one), True)
            self.assertIs(is_right_divisor(found, other), True)
            self.assertEqual(right_common(other, one), found)

    def test_it_is_a_sum_of_both(self):
        for one, other in pairs():
            found = right_sum(one, other)
            self.assertEqual([type(found)] + [type(number) for number in found], [tuple] * 4)
            common, ahead_one, ahead_other = found
            self.assertEqual(common, right_common(one, other))
            self.assertTrue(is_number(ahead_one) and is_number(ahead_other))
            self.assertEqual(added(product(ahead_one, one), product(ahead_other, other)), common)

    def test_a_number_and_zero(self):
        for number in sample_numbers():
            if any(number):
                self.assertEqual(right_common(number, ZERO), canonical_ahead(number))
                self.assertEqual(right_common(ZERO, number), canonical_ahead(number))

    def test_products_with_a_unit_ahead(self):
        differ = 0
        for number in sample_numbers():
            if any(number):
                expected = max([product(unit, number) for unit in units()])
                self.assertEqual(canonical_ahead(number), expected)
                self.assertEqual(canonical_ahead(list(number)), expected)
                self.assertIs(type(canonical_ahead(list(number))), tuple)
                differ += expected != canonical(number)
        self.assertGreater(differ, 0)
        self.assertEqual({canonical_ahead(unit) for unit in units()}, {ONE})

    def test_great_numbers(self):
        shared, one, other = great_numbers(300, 3)
        one, other = product(times(one, 7), shared), product(other, shared)
        common, ahead_one, ahead_other = right_sum(one, other)
        self.assertEqual(common, right_common(one, other))
        self.assertEqual(added(product(ahead_one, one), product(ahead_other, other)), common)
        self.assertIs(is_right_divisor(shared, common), True)


class LeastMultipleTest(unittest.TestCase):
    """Point 22."""

    def test_examples(self):
        self.assertEqual(least_multiple((2, 2, 0, 0), (4, 0, 0, 0)), (4, 0, 0, 0))
        self.assertEqual(least_multiple((4, 0, 0, 0), (6, 0, 0, 0)), (12, 0, 0, 0))
        self.assertEqual(least_multiple(SOME, SOME), SOME)
        self.assertEqual(least_multiple(ONE, (2, 2, 2, 0)), canonical((2, 2, 2, 0)))

    def test_it_is_canonical_has_both_and_has_the_least_norm(self):
        for one, other in pairs():
            if not any(one) or not any(other):
                continue
            found = least_multiple(one, other)
            self.assertIs(type(found), tuple)
            self.assertEqual(found, max(associates(found)))
            self.assertIs(is_left_divisor(one, found), True)
            self.assertIs(is_left_divisor(other, found), True)
            self.assertEqual(norm(found) * norm(left_common(one, other)), norm(one) * norm(other))
            self.assertEqual(least_multiple(other, list(one)), found)

    def test_it_is_a_left_divisor_of_each_number_that_has_both(self):
        for one, other in pairs():
            if not any(one) or not any(other):
                continue
            found = least_multiple(one, other)
            for multiple in [times(one, norm(other)), times(other, norm(one)), (2 * norm(one) * norm(other), 0, 0, 0)]:
                self.assertIs(is_left_divisor(found, multiple), True)

    def test_multiples_by_search(self):
        one, other = (2, 2, 2, 0), (2, 4, 0, 0)
        found = least_multiple(one, other)
        for number in small_numbers(6)[::2]:
            has_both = is_left_divisor(one, number) and is_left_divisor(other, number)
            self.assertIs(has_both, is_left_divisor(found, number))

    def test_great_numbers(self):
        one, other = great_numbers(150, 2)
        found = least_multiple(one, other)
        self.assertTrue(is_left_divisor(one, found) and is_left_divisor(other, found))
        self.assertEqual(norm(found) * norm(left_common(one, other)), norm(one) * norm(other))


class ApartTest(unittest.TestCase):
    """Points 23 and 25."""

    def test_examples(self):
        self.assertIs(are_apart((4, 0, 0, 0), (6, 0, 0, 0)), True)
        self.assertIs(are_apart((6, 0, 0, 0), (2, 2, 2, 0)), False)
        self.assertIs(are_apart((1, 1, 1, 1), ZERO), True)
        self.assertIs(are_apart(ZERO, SOME), False)
        # On the left nothing is common, on the right a number of norm 3.
        self.assertIs(are_apart(product((2, 4, 0, 0), SOME), product((2, 0, 0, 2), SOME)), True)

    def test_apart_is_told_by_the_norm(self):
        found = set()
        for one, other in pairs():
            apart = are_apart(one, other)
            self.assertIs(apart, norm(left_common(one, other)) == 1)
            self.assertIs(are_apart(list(other), list(one)), apart)
            found.add(apart)
            if gcd(norm(one), norm(other)) == 1:
                self.assertIs(apart, True)
        self.assertEqual(found, {True, False})

    def test_primes_and_primitive_numbers(self):
        for number in [number for number in sample_numbers() if any(number)] + great_numbers(30, 4):
            if not is_primitive(number):
                continue
            for prime in (3, 5, 7, 11, 13, 17, 19, 23):
                integer = (2 * prime, 0, 0, 0)
                divides = norm(number) % prime == 0
                self.assertEqual(norm(left_common(number, integer)), prime if divides else 1)
                self.assertIs(are_apart(number, integer), not divides)

    def test_2(self):
        self.assertEqual(left_common((2, 2, 0, 0), (4, 0, 0, 0)), (2, 2, 0, 0))
        self.assertEqual(left_common((2, 4, 0, 2), (4, 0, 0, 0)), (2, 2, 0, 0))
        self.assertIs(are_apart(SOME, (4, 0, 0, 0)), True)


class CommonOfTest(unittest.TestCase):
    """Point 24."""

    def test_examples(self):
        self.assertEqual(common_of([(6, 0, 0, 0), (2, 2, 2, 0)]), (3, 1, -1, 1))
        self.assertEqual(common_of([(12, 0, 0, 0), (20, 0, 0, 0), (30, 0, 0, 0)]), ONE)
        self.assertEqual(common_of([(24, 0, 0, 0), (40, 0, 0, 0), (60, 0, 0, 0)]), (4, 0, 0, 0))
        self.assertEqual(common_of([(2, 2, 2, 0)]), (3, 1, -1, 1))
        self.assertEqual(common_of([[2, 2, 2, 0]]), (3, 1, -1, 1))

    def test_that_of_the_first_two_and_the_next_one(self):
        ahead = (4, 2, 0, 0)
        numbers = [product(ahead, number) for number in [SOME, (4, 4, 4, 2), (2, 2, 0, 0), (10, 2, 0, 6)]]
        expected = left_common(left_common(left_common(numbers[0], numbers[1]), numbers[2]), numbers[3])
        self.assertEqual(common_of(numbers), expected)
        self.assertIs(is_left_divisor(ahead, expected), True)
        for order in permutations(numbers):
            self.assertEqual(common_of(order), expected)

    def test_zeros_do_not_matter(self):
        numbers = [product((3, 1, 1, -1), number) for number in [SOME, (4, 4, 4, 2), (2, 2, 0, 0)]]
        for many in range(4):
            with_zero = numbers[:many] + [ZERO] + numbers[many:]
            self.assertEqual(common_of(with_zero), common_of(numbers))
            self.assertEqual(common_of([ZERO, *with_zero, [0, 0, 0, 0]]), common_of(numbers))
        self.assertEqual(common_of([ZERO, (2, 2, 2, 0), ZERO]), (3, 1, -1, 1))

    def test_pairs(self):
        for one, other in pairs():
            self.assertEqual(common_of([one, other]), left_common(one, other))
            self.assertEqual(common_of((other, one, one)), left_common(one, other))

    def test_lists_that_are_passed_stay(self):
        numbers = [[6, 0, 0, 0], [2, 2, 2, 0]]
        self.assertIs(type(common_of(numbers)), tuple)
        self.assertEqual(numbers, [[6, 0, 0, 0], [2, 2, 2, 0]])

    def test_no_numbers_and_zeros(self):
        for numbers in [[], (), [ZERO], [ZERO, ZERO], [[0, 0, 0, 0]] * 3]:
            with self.subTest(numbers), self.assertRaises(InvalidQuestion):
                common_of(numbers)

    def test_what_is_no_number(self):
        for wrong in NO_NUMBERS:
            for numbers in [[wrong], [wrong, ONE], [ONE, wrong], [ZERO, wrong], [wrong, ZERO], [ONE, SOME, list(wrong)]]:
                with self.subTest(numbers), self.assertRaises(InvalidNumber):
                    common_of(numbers)


class SumsTest(unittest.TestCase):
    """Point 19, which numbers are sums."""

    def test_examples(self):
        self.assertIs(is_sum((4, 0, 0, 0), (6, 0, 0, 0), (0, 2, 0, 0)), True)
        self.assertIs(is_sum((4, 0, 0, 0), (8, 0, 0, 0), (0, 2, 0, 0)), False)
        self.assertIs(is_sum((4, 0, 0, 0), (8, 0, 0, 0), (2, 2, 2, 2)), True)
        self.assertIsNone(both_sums((4, 0, 0, 0), (8, 0, 0, 0), (0, 2, 0, 0)))
        self.assertIs(is_sum((6, 0, 0, 0), ZERO, (2, 2, 2, 0)), False)

    def test_sums_are_what_has_the_common_divisor(self):
        found = set()
        for one, other in pairs()[::3]:
            common = left_common(one, other)
            for number in [ONE, SOME, ZERO, (4, 2, 0, 0), (12, 6, 6, 0), common, product(common, SOME), one, other]:
                expected = is_left_divisor(common, number)
                self.assertIs(is_sum(one, other, number), expected)
                self.assertIs(is_sum(list(one), list(other), list(number)), expected)
                made = both_sums(one, other, number)
                found.add(made is None)
                if not expected:
                    self.assertIsNone(made)
                    continue
                self.assertEqual([type(made), len(made)] + [type(part) for part in made], [tuple, 2, tuple, tuple])
                self.assertEqual(added(product(one, made[0]), product(other, made[1])), number)
        self.assertEqual(found, {True, False})

    def test_what_stands_ahead_does_not_count(self):
        one, other = product(SOME, (2, 4, 0, 0)), product(SOME, (2, 0, 0, 2))
        self.assertEqual(left_common(one, other), SOME)
        self.assertIs(is_sum(one, other, product(SOME, (4, 0, 2, 0))), True)
        self.assertIs(is_sum(one, other, product((4, 0, 2, 0), SOME)), False)

    def test_great_numbers(self):
        shared, one, other, more = great_numbers(100, 4)
        one, other = product(shared, one), product(shared, other)
        number = product_of([left_common(one, other), more])
        made = both_sums(one, other, number)
        self.assertEqual(added(product(one, made[0]), product(other, made[1])), number)
        self.assertIsNone(both_sums(one, other, more))


class ErrorsTest(unittest.TestCase):
    """Point 27."""

    def assert_raises_just(self, error, action, *arguments):
        with self.assertRaises(error) as caught:
            action(*arguments)
        self.assertIs(type(caught.exception), error)

    def test_what_is_no_number(self):
        for wrong in NO_NUMBERS:
            self.assert_raises_just(InvalidNumber, canonical_ahead, wrong)
            for name, action in OF_TWO.items():
                for other in (ONE, ZERO, SOME, wrong):
                    with self.subTest(name, wrong=wrong, other=other):
                        self.assert_raises_just(InvalidNumber, action, wrong, other)
                        self.assert_raises_just(InvalidNumber, action, other, wrong)
                        self.assert_raises_just(InvalidNumber, action, list(other), list(wrong))

    def test_what_is_no_number_of_three(self):
        for name, action in OF_THREE.items():
            for wrong in NO_NUMBERS:
                for other in (ONE, ZERO):
                    with self.subTest(name, wrong=wrong, other=other):
                        self.assert_raises_just(InvalidNumber, action, wrong, other, other)
                        self.assert_raises_just(InvalidNumber, action, other, wrong, other)
                        self.assert_raises_just(InvalidNumber, action, other, other, wrong)
                        self.assert_raises_just(InvalidNumber, action, other, wrong, wrong)

    def test_numbers_all_of_which_are_zero(self):
        for zero in (ZERO, [0, 0, 0, 0]):
            self.assert_raises_just(InvalidQuestion, canonical_ahead, zero)
            for name, action in OF_TWO.items():
                with self.subTest(name):
                    self.assert_raises_just(InvalidQuestion, action, zero, ZERO)
            for name, action in OF_THREE.items():
                for number in (ONE, ZERO):
                    with self.subTest(name, number=number):
                        self.assert_raises_just(InvalidQuestion, action, zero, ZERO, number)

    def test_one_that_is_zero_where_none_may_be(self):
        for zero in (ZERO, [0, 0, 0, 0]):
            self.assert_raises_just(InvalidQuestion, least_multiple, zero, SOME)
            self.assert_raises_just(InvalidQuestion, least_multiple, SOME, zero)

    def test_lists_do_as_tuples_and_stay(self):
        for name, action in OF_TWO.items():
            with self.subTest(name):
                one, other = [6, 0, 0, 0], [2, 2, 2, 0]
                self.assertEqual(action(one, other), action((6, 0, 0, 0), (2, 2, 2, 0)))
                self.assertEqual((one, other), ([6, 0, 0, 0], [2, 2, 2, 0]))


if __name__ == "__main__":
    unittest.main()
