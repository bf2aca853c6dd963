"""Points 2 to 9: numbers, told by their doubled parts."""

import unittest
from fractions import Fraction
from math import gcd

from samples import NO_NUMBERS, ONE, ZERO, great_numbers, product_by_rules, sample_numbers, small_numbers

from turnprimes.errors import InvalidNumber, InvalidQuestion
from turnprimes.numbers import (
    added, are_associates, associates, canonical, check_not_zero, check_number, conjugate, content, is_number,
    is_primitive, is_unit, is_whole, less, norm, of_integers, opposite, primitive_part, product, product_of, times,
    unit_behind, units,
)

I = (0, 2, 0, 0)
J = (0, 0, 2, 0)
K = (0, 0, 0, 2)

OF_ONE = {
    "check_number": check_number,
    "check_not_zero": check_not_zero,
    "is_whole": is_whole,
    "opposite": opposite,
    "conjugate": conjugate,
    "norm": norm,
    "times": lambda number: times(number, 3),
    "times 0": lambda number: times(number, 0),
    "product_of": lambda number: product_of([number]),
    "is_unit": is_unit,
    "associates": associates,
    "canonical": canonical,
    "unit_behind": unit_behind,
    "content": content,
    "primitive_part": primitive_part,
    "is_primitive": is_primitive,
}
OF_TWO = {"added": added, "less": less, "product": product, "are_associates": are_associates}
NOT_OF_ZERO = {
    "check_not_zero": check_not_zero,
    "associates": associates,
    "canonical": canonical,
    "unit_behind": unit_behind,
    "content": content,
    "primitive_part": primitive_part,
    "is_primitive": is_primitive,
}


def divides(integer, number):
    """By point 7: whether the parts divided by the integer are the parts of a number."""
    doubled = [Fraction(part, integer) for part in number]
    return all(part.denominator == 1 for part in doubled) and len({int(part) % 2 for part in doubled}) == 1


class NumbersTest(unittest.TestCase):
    """Point 2."""

    def test_integers_all_even_or_all_odd_are_numbers(self):
        for number in [ZERO, ONE, (1, 1, 1, 1), (-1, 3, -5, 7), (-2, 4, 0, 6), (10 ** 400, 0, 0, -2)]:
            with self.subTest(number):
                self.assertIs(is_number(number), True)
                self.assertIs(is_number(list(number)), True)
                self.assertIsNone(check_number(number))
                self.assertIsNone(check_number(list(number)))

    def test_other_integers_and_other_lengths_are_none(self):
        for wrong in NO_NUMBERS:
            with self.subTest(wrong):
                self.assertIs(is_number(wrong), False)
                self.assertIs(is_number(list(wrong)), False)

    def test_whole_numbers(self):
        for number in [ZERO, ONE, (-2, 4, 0, 6), [0, 0, 0, 2], (2 * 10 ** 60, 0, 0, 0)]:
            with self.subTest(number):
                self.assertIs(is_whole(number), True)
        for number in [(1, 1, 1, 1), (-1, 3, -5, 7), [1, 1, 1, -1], (10 ** 60 + 1, 1, 1, 1)]:
            with self.subTest(number):
                self.assertIs(is_whole(number), False)

    def test_numbers_of_integers(self):
        self.assertEqual(of_integers((1, 0, 0, 0)), ONE)
        self.assertEqual(of_integers([0, -1, 2, 3]), (0, -2, 4, 6))
        self.assertEqual(of_integers((10 ** 60, 0, 0, 0)), (2 * 10 ** 60, 0, 0, 0))
        self.assertIs(type(of_integers([0, 0, 0, 0])), tuple)

    def test_numbers_of_another_many_integers(self):
        for wrong in [(), (1,), (1, 2, 3), [1, 2, 3, 4, 5], [2, 0, 0]]:
            with self.subTest(wrong), self.assertRaises(InvalidNumber):
                of_integers(wrong)


class SumsTest(unittest.TestCase):
    """Point 3, sums and differences."""

    def test_sums_and_differences_part_by_part(self):
        self.assertEqual(added((2, 0, 4, 6), (1, 1, 1, -3)), (3, 1, 5, 3))
        self.assertEqual(less((2, 0, 4, 6), (1, 1, 1, -3)), (1, -1, 3, 9))
        self.assertEqual(added([1, 1, 1, 1], [1, 1, 1, 1]), (2, 2, 2, 2))
        self.assertEqual(less([1, 1, 1, 1], [1, 1, 1, 1]), ZERO)

    def test_sums_of_samples(self):
        for one in sample_numbers():
            for other in [ZERO, (1, -3, 5, 7), (10 ** 50, 0, 2, 4)]:
                total = added(one, other)
                self.assertTrue(is_number(total))
                self.assertEqual(less(total, other), one)
                self.assertEqual(less(one, total), opposite(other))

    def test_times_an_integer(self):
        self.assertEqual(times((1, -1, 3, 5), 2), (2, -2, 6, 10))
        self.assertEqual(times([1, -1, 3, 5], -3), (-3, 3, -9, -15))
        self.assertEqual(times((1, 1, 1, 1), 0), ZERO)
        self.assertEqual(times((0, 2, 0, 0), 10 ** 60), (0, 2 * 10 ** 60, 0, 0))
        for number in sample_numbers():
            self.assertEqual(times(number, -7), product(number, (-14, 0, 0, 0)))


class ProductsTest(unittest.TestCase):
    """Point 3, products."""

    def test_examples(self):
        self.assertEqual(product(I, J), K)
        self.assertEqual(product(J, I), (0, 0, 0, -2))
        self.assertEqual(product((1, 1, 1, 1), (1, -1, -1, -1)), ONE)

    def test_rules(self):
        minus_one = (-2, 0, 0, 0)
        for part in (I, J, K):
            self.assertEqual(product(part, part), minus_one)
        self.assertEqual(product(product(I, J), K), minus_one)

    def test_samples_by_the_rules(self):
        numbers = sample_numbers()
        for at, one in enumerate(numbers):
            for other in numbers[at % 7::7]:
                result = product(one, other)
                self.assertEqual(result, product_by_rules(one, other))
                self.assertTrue(is_number(result))

    def test_zero_and_one(self):
        for number in sample_numbers():
            self.assertEqual(product(number, ONE), number)
            self.assertEqual(product(ONE, number), number)
            self.assertEqual(product(number, ZERO), ZERO)
            self.assertEqual(product(ZERO, number), ZERO)

    def test_products_of_lists_in_their_order(self):
        self.assertEqual(product_of([]), ONE)
        self.assertEqual(product_of([[0, 2, 4, 6]]), (0, 2, 4, 6))
        self.assertEqual(product_of([I, J]), K)
        self.assertEqual(product_of([J, I]), (0, 0, 0, -2))
        self.assertEqual(product_of((I, J, K)), (-2, 0, 0, 0))
        first, second, third = (3, 1, 1, 1), (2, 4, 0, -2), (1, -1, 5, 3)
        self.assertEqual(product_of([first, second, third]), product(product(first, second), third))
        self.assertNotEqual(product_of([first, second, third]), product_of([third, second, first]))
        self.assertEqual(product_of([first, ZERO, third]), ZERO)

    def test_great_products(self):
        one, other = great_numbers(2000, 2)
        self.assertEqual(norm(product(one, other)), norm(one) * norm(other))


class NormsTest(unittest.TestCase):
    """Point 4."""

    def test_conjugates_and_opposites(self):
        self.assertEqual(conjugate((2, 4, -6, 8)), (2, -4, 6, -8))
        self.assertEqual(opposite((2, 4, -6, 8)), (-2, -4, 6, -8))
        self.assertEqual(conjugate([-1, 1, 1, -3]), (-1, -1, -1, 3))
        self.assertEqual(opposite([-1, 1, 1, -3]), (1, -1, -1, 3))
        self.assertEqual(conjugate(ZERO), ZERO)
        self.assertEqual(opposite(ZERO), ZERO)

    def test_norms(self):
        self.assertEqual(norm((1, 1, 1, 3)), 3)
        self.assertEqual(norm(ZERO), 0)
        self.assertEqual(norm(ONE), 1)
        self.assertEqual(norm([1, 1, 1, 1]), 1)
        self.assertEqual(norm((2, -4, 6, 8)), 30)
        self.assertEqual(norm((2 * 10 ** 60, 0, 0, 2)), 10 ** 120 + 1)
        self.assertIs(type(norm((1, 1, 1, 3))), int)

    def test_the_norm_is_the_product_with_the_conjugate(self):
        for number in sample_numbers():
            self.assertEqual(product(number, conjugate(number)), (2 * norm(number), 0, 0, 0))
            self.assertEqual(product(conjugate(number), number), (2 * norm(number), 0, 0, 0))

    def test_norms_and_conjugates_of_products(self):
        numbers = sample_numbers()
        for one, other in zip(numbers, numbers[3:]):
            result = product(one, other)
            self.assertEqual(norm(result), norm(one) * norm(other))
            self.assertEqual(conjugate(result), product(conjugate(other), conjugate(one)))


class UnitsTest(unittest.TestCase):
    """Point 5."""

    def test_units_are_the_numbers_of_norm_1(self):
        expected = [number for number in small_numbers(2) if sum([part * part for part in number]) == 4]
        self.assertEqual(len(expected), 24)
        self.assertEqual(units(), sorted(expected))
        self.assertTrue(all(type(unit) is tuple for unit in units()))

    def test_units_are_a_new_list_each_time(self):
        found = units()
        found.clear()
        self.assertEqual(len(units()), 24)

    def test_is_unit(self):
        for number in small_numbers(3) + [(2 * 10 ** 40, 0, 0, 0)]:
            self.assertIs(is_unit(number), number in units())
        self.assertIs(is_unit([1, -1, 1, 1]), True)
        self.assertIs(is_unit([0, 0, 0, 0]), False)

    def test_products_of_units(self):
        for one in units():
            self.assertEqual(product(one, conjugate(one)), ONE)
            for other in units():
                self.assertTrue(is_unit(product(one, other)))


class AssociatesTest(unittest.TestCase):
    """Point 6."""

    def test_examples(self):
        self.assertEqual(canonical((2, 2, 2, 0)), (3, 1, -1, 1))
        self.assertEqual(unit_behind((2, 2, 2, 0)), (1, 1, 1, -1))

    def test_associates_of_samples(self):
        for number in sample_numbers():
            if number == ZERO:
                continue
            found = associates(number)
            expected = sorted([product_by_rules(number, unit) for unit in units()])
            self.assertEqual(found, expected)
            self.assertEqual(len(set(found)), 24)
            self.assertEqual(canonical(number), expected[-1])
            self.assertTrue(is_unit(unit_behind(number)))
            self.assertEqual(product(canonical(number), unit_behind(number)), number)
            self.assertTrue(any(is_whole(associate) for associate in found))

    def test_associates_have_their_associates_in_common(self):
        number = (5, -3, 1, 7)
        for associate in associates(number):
            self.assertEqual(associates(associate), associates(number))
            self.assertEqual(canonical(associate), canonical(number))
            self.assertIs(are_associates(number, associate), True)
            self.assertIs(are_associates(list(associate), list(number)), True)

    def test_units_ahead_do_not_make_associates(self):
        number = (5, -3, 1, 7)
        ahead = product((0, 2, 0, 0), number)
        self.assertNotIn(ahead, associates(number))
        self.assertIs(are_associates(number, ahead), False)
        self.assertIs(are_associates([2, 0, 0, 0], (2, 2, 0, 0)), False)

    def test_units_are_the_associates_of_one(self):
        self.assertEqual(associates(ONE), units())
        for unit in units():
            self.assertEqual(canonical(unit), ONE)
            self.assertEqual(unit_behind(unit), unit)
            self.assertIs(are_associates(unit, ONE), True)

    def test_are_associates_is_told_by_the_lists(self):
        numbers = [number for number in small_numbers(2) if number != ZERO]
        for one in numbers[::3]:
            for other in numbers:
                self.assertIs(are_associates(one, other), other in associates(one))


class ContentsTest(unittest.TestCase):
    """Points 7 and 8."""

    def test_examples(self):
        self.assertEqual(content((4, 4, 0, 0)), 2)
        self.assertEqual(content((2, 2, 2, 2)), 2)
        self.assertEqual(content((2, 0, 0, 0)), 1)

    def test_contents(self):
        self.assertEqual(content((6, 6, 6, 6)), 6)
        self.assertEqual(content((6, 0, 0, 0)), 3)
        self.assertEqual(content([3, 3, 3, -9]), 3)
        self.assertEqual(content((-4, 4, 4, 4)), 4)
        self.assertEqual(content((0, 0, 0, -2)), 1)
        self.assertEqual(content((0, 0, 0, 14 * 10 ** 60)), 7 * 10 ** 60)
        self.assertEqual(content(times((1, 1, 1, 3), 10 ** 60)), 10 ** 60)

    def test_the_content_is_the_greatest_integer_that_divides(self):
        for number in small_numbers(6)[::3] + [(12, 12, 24, 36), (30, 30, 30, 30), (60, 30, 90, 0)]:
            if number == ZERO:
                continue
            dividing = [m for m in range(1, 100) if divides(m, number)]
            self.assertEqual(content(number), max(dividing))
            self.assertTrue(all(content(number) % m == 0 for m in dividing))
            self.assertIs(is_primitive(number), len(dividing) == 1)

    def test_primitive_parts(self):
        self.assertEqual(primitive_part((2, 2, 2, 2)), (1, 1, 1, 1))
        self.assertEqual(primitive_part([-6, 0, 0, 0]), (-2, 0, 0, 0))
        self.assertEqual(primitive_part((9, -3, 3, 3)), (3, -1, 1, 1))
        for number in sample_numbers():
            if number == ZERO:
                continue
            part = primitive_part(number)
            self.assertEqual(times(part, content(number)), number)
            self.assertEqual(content(part), 1)
            self.assertIs(is_primitive(part), True)
            self.assertIs(is_primitive(times(part, -3)), False)

    def test_parts_that_share_no_integer_are_primitive(self):
        for number in sample_numbers():
            if gcd(*number) == 1:
                self.assertIs(is_primitive(number), True)
        self.assertIs(is_primitive((2, 2, 2, 2)), False)
        self.assertIs(is_primitive([2, 4, 2, 2]), True)


class WrongNumbersTest(unittest.TestCase):
    """Point 9."""

    def assert_raises_just(self, error, action, *arguments):
        with self.assertRaises(error) as caught:
            action(*arguments)
        self.assertIs(type(caught.exception), error)

    def test_what_is_no_number(self):
        for name, action in OF_ONE.items():
            for wrong in NO_NUMBERS:
                with self.subTest(name, wrong=wrong):
                    self.assert_raises_just(InvalidNumber, action, wrong)
                    self.assert_raises_just(InvalidNumber, action, list(wrong))

    def test_what_is_no_number_as_first_and_second_argument(self):
        for name, action in OF_TWO.items():
            for wrong in NO_NUMBERS:
                with self.subTest(name, wrong=wrong):
                    self.assert_raises_just(InvalidNumber, action, wrong, (4, 2, 0, 0))
                    self.assert_raises_just(InvalidNumber, action, (4, 2, 0, 0), wrong)
                    self.assert_raises_just(InvalidNumber, action, list(wrong), [1, 1, 1, 1])
                    self.assert_raises_just(InvalidNumber, action, [1, 1, 1, 1], list(wrong))
                    self.assert_raises_just(InvalidNumber, action, wrong, wrong)

    def test_what_is_no_number_in_a_list(self):
        for wrong in NO_NUMBERS:
            for numbers in [[wrong], [wrong, ONE], [ONE, wrong], [ONE, list(wrong), K], [ZERO, wrong]]:
                with self.subTest(numbers=numbers):
                    self.assert_raises_just(InvalidNumber, product_of, numbers)

    def test_0_has_no_associates_and_no_content(self):
        for name, action in NOT_OF_ZERO.items():
            for zero in (ZERO, [0, 0, 0, 0]):
                with self.subTest(name):
                    self.assert_raises_just(InvalidQuestion, action, zero)
        for one, other in [(ZERO, ONE), (ONE, ZERO), (ZERO, ZERO), ([0, 0, 0, 0], ONE)]:
            self.assert_raises_just(InvalidQuestion, are_associates, one, other)

    def test_what_is_no_number_comes_ahead_of_0(self):
        for wrong in NO_NUMBERS:
            self.assert_raises_just(InvalidNumber, are_associates, ZERO, wrong)
            self.assert_raises_just(InvalidNumber, are_associates, wrong, ZERO)

    def test_numbers_other_than_0_pass(self):
        for number in [ONE, [0, 0, 0, 2], (0, 0, -2, 0), (0, 2, 0, 0), (1, -1, 1, -1)]:
            self.assertIsNone(check_not_zero(number))

    def test_0_is_asked_for_where_it_may_be(self):
        self.assertIsNone(check_number(ZERO))
        self.assertIs(is_whole(ZERO), True)
        self.assertIs(is_unit(ZERO), False)
        self.assertEqual(times(ZERO, 5), ZERO)
        self.assertEqual(product_of([ZERO]), ZERO)


class ArgumentsTest(unittest.TestCase):
    """Points 1 and 9: tuples or lists are passed and stay; tuples and new lists are returned."""

    def test_lists_do_as_tuples(self):
        for name, action in OF_ONE.items():
            for number in [(6, 2, -4, 0), (3, -1, 5, 3)]:
                with self.subTest(name):
                    passed = list(number)
                    self.assertEqual(action(passed), action(number))
                    self.assertEqual(passed, list(number))
        for name, action in OF_TWO.items():
            with self.subTest(name):
                one, other = [6, 2, -4, 0], [3, -1, 5, 3]
                self.assertEqual(action(one, other), action((6, 2, -4, 0), (3, -1, 5, 3)))
                self.assertEqual((one, other), ([6, 2, -4, 0], [3, -1, 5, 3]))

    def test_numbers_are_returned_as_tuples(self):
        passed = [3, 1, -1, 1]
        for action in (opposite, conjugate, canonical, unit_behind, primitive_part):
            self.assertIs(type(action(passed)), tuple)
        for action in (added, less, product):
            self.assertIs(type(action(passed, passed)), tuple)
        self.assertIs(type(times(passed, 1)), tuple)
        self.assertIs(type(product_of([passed])), tuple)
        self.assertTrue(all(type(number) is tuple for number in associates(passed)))

    def test_lists_of_numbers_stay(self):
        numbers = [[3, 1, 1, 1], (0, 2, 0, 0)]
        product_of(numbers)
        self.assertEqual(numbers, [[3, 1, 1, 1], (0, 2, 0, 0)])

    def test_associates_are_a_new_list_each_time(self):
        found = associates(ONE)
        found.clear()
        self.assertEqual(len(associates(ONE)), 24)
        self.assertEqual(len(units()), 24)


if __name__ == "__main__":
    unittest.main()
