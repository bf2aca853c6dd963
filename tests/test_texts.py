"""Points 71 to 73: rows of factors as texts."""

import unittest

from samples import (
    GREAT_PRIME, NO_NUMBERS, ONE, ZERO, great_numbers, great_primes_below, number_of_norm, primes_in, small_numbers,
)

from turnprimes.errors import InvalidNumber, InvalidPaper, InvalidQuestion
from turnprimes.factors import number_by, primes_of, row_of, row_of_factors
from turnprimes.numbers import canonical, conjugate, is_primitive, norm, opposite, product, product_of, unit_behind, units
from turnprimes.texts import check_text, parse_row, row_text

I = (0, 2, 0, 0)
THREE = (3, 1, 1, 1)
FIVE = (4, 2, 0, 0)
TWO = (2, 2, 0, 0)
DIGITS_200 = "9" * 200
EXAMPLE = "row\nfactor 4 2 0 0\nunit 0 2 0 0"

# Lines that cannot stand where a factor or a unit can.
NO_LINES = [
    "", " ", "row", "numbers", "number 4 2 0 0", "Factor 4 2 0 0", "factors 4 2 0 0", "fact 4 2 0 0", "4 2 0 0",
    "factor", "unit", "factor 4 2 0", "factor 4 2 0 0 0", "unit 2 0 0", "unit 2 0 0 0 0", "factor 4 2 0 0 ",
    " factor 4 2 0 0", "factor  4 2 0 0", "factor 4  2 0 0", "factor 4 2 0 0\r", "factor\t4 2 0 0", "factor 4\t2 0 0",
    "factor 04 2 0 0", "factor 4 2 0 00", "factor -0 0 0 0", "unit 2 -0 0 0", "factor +4 2 0 0", "factor 4.0 2 0 0",
    "factor 4 2 0 a", "factor 4 2 0 -", "factor --4 2 0 0", "factor 4 2 0 0x0", "factor 1_0 2 0 0", "factor a b c d",
    f"factor 1{DIGITS_200} 1 1 1", f"unit 1 1 1 -1{DIGITS_200}", "factor \u0664 2 0 0", "factor 4 \u00b2 0 0",
    "factor 1 2 3 4", "factor 1 0 0 0", "unit 1 0 0 0", "unit 2 2 2 1", "factor(4 2 0 0)", "factor 4,2,0,0",
]


class FormCase(unittest.TestCase):
    def assert_stops_at(self, line, text):
        with self.assertRaises(InvalidPaper) as caught:
            parse_row(text)
        self.assertEqual(caught.exception.line, line)
        with self.assertRaises(InvalidPaper) as caught:
            check_text(FIVE, text)
        self.assertEqual(caught.exception.line, line)


class WritingTest(unittest.TestCase):
    """Point 71."""

    def test_examples(self):
        self.assertEqual(row_text([FIVE], I), EXAMPLE)
        self.assertEqual(row_text([], ONE), "row\nunit 2 0 0 0")
        self.assertEqual(
            row_text([(3, 1, -1, 1), [4, 2, 0, 0]], [-1, 1, -1, 1]), "row\nfactor 3 1 -1 1\nfactor 4 2 0 0\nunit -1 1 -1 1"
        )

    def test_numbers_that_are_no_factors_and_no_units(self):
        self.assertEqual(row_text([ZERO, (6, 0, 0, 0)], (10, -4, 0, 0)),
                         "row\nfactor 0 0 0 0\nfactor 6 0 0 0\nunit 10 -4 0 0")
        self.assertEqual(row_text([], ZERO), "row\nunit 0 0 0 0")

    def test_integers_of_any_size(self):
        self.assertEqual(row_text([(10 ** 5000, 0, 0, 0)], (-10 ** 300, 0, 0, 2)),
                         f"row\nfactor 1{'0' * 5000} 0 0 0\nunit -1{'0' * 300} 0 0 2")

    def test_what_is_no_number(self):
        for wrong in NO_NUMBERS:
            for row, unit in [([wrong], ONE), ([FIVE, wrong], ONE), ([], wrong), ([FIVE], wrong), ([wrong, FIVE], ONE)]:
                with self.subTest(row=row, unit=unit), self.assertRaises(InvalidNumber):
                    row_text(row, unit)

    def test_lists_that_are_passed_stay(self):
        row, unit = [[4, 2, 0, 0], [3, 1, 1, 1]], [0, 2, 0, 0]
        row_text(row, unit)
        self.assertEqual((row, unit), ([[4, 2, 0, 0], [3, 1, 1, 1]], [0, 2, 0, 0]))


class ParsingTest(FormCase):
    """Point 72."""

    def test_what_was_written(self):
        for row, unit in [
            ([FIVE], I), ([], ONE), ([TWO, THREE, THREE, FIVE], (-1, 1, -1, 1)), ([ZERO], ZERO), ([], (6, 8, 0, 0)),
            (great_numbers(100, 5), (1, 1, 1, 1)), ([(10 ** 200 - 1, 1, 1, -10 ** 200 + 1)], ONE),
        ]:
            found = parse_row(row_text(row, unit))
            self.assertEqual(found, (row, unit))
            self.assertEqual((type(found), type(found[0])), (tuple, list))
            self.assertTrue(all(type(number) is tuple for number in [*found[0], found[1]]))

    def test_a_row_without_factors(self):
        self.assertEqual(parse_row("row\nunit -2 0 0 0"), ([], (-2, 0, 0, 0)))

    def test_a_unit_that_is_none_is_no_question_of_the_form(self):
        self.assertEqual(parse_row("row\nfactor 4 2 0 0\nunit 4 2 0 0"), ([FIVE], FIVE))
        self.assertEqual(parse_row("row\nunit 0 0 0 0"), ([], ZERO))
        self.assertEqual(parse_row("row\nfactor 0 0 0 0\nunit 7 1 1 -3"), ([ZERO], (7, 1, 1, -3)))

    def test_integers_of_200_and_of_201_digits(self):
        self.assertEqual(parse_row(f"row\nunit {DIGITS_200} -{DIGITS_200} 1 1"), ([], (10 ** 200 - 1, 1 - 10 ** 200, 1, 1)))
        self.assert_stops_at(2, f"row\nunit 1{DIGITS_200} 1 1 1")
        self.assert_stops_at(3, f"row\nfactor 4 2 0 0\nfactor 1 1 1 -1{DIGITS_200}\nunit 2 0 0 0")

    def test_the_first_line(self):
        for line in ["", " ", "Row", "row ", " row", "rows", "ro", "numbers", "row\r", "row 1", "factor 4 2 0 0", "row\t"]:
            with self.subTest(line):
                self.assert_stops_at(1, line)
                self.assert_stops_at(1, line + "\nfactor 4 2 0 0\nunit 2 0 0 0")

    def test_lines_that_cannot_stand(self):
        for line in NO_LINES:
            with self.subTest(line):
                self.assert_stops_at(2, "row\n" + line)
                self.assert_stops_at(2, "row\n" + line + "\nunit 2 0 0 0")
                self.assert_stops_at(3, "row\nfactor 4 2 0 0\n" + line + "\nunit 2 0 0 0")
                self.assert_stops_at(4, "row\nfactor 4 2 0 0\nfactor 3 1 1 1\n" + line)

    def test_the_first_of_several_lines(self):
        self.assert_stops_at(2, "row\nfoo\nbar\nunit 2 0 0 0\nunit 2 0 0 0")
        self.assert_stops_at(3, "row\nunit 2 0 0 0\nfoo\nbar")

    def test_lines_behind_the_unit(self):
        for line in [*NO_LINES, "factor 4 2 0 0", "unit 2 0 0 0", "unit 0 2 0 0"]:
            with self.subTest(line):
                self.assert_stops_at(3, "row\nunit 2 0 0 0\n" + line)
                self.assert_stops_at(4, "row\nfactor 4 2 0 0\nunit 0 2 0 0\n" + line)
                self.assert_stops_at(4, "row\nfactor 4 2 0 0\nunit 0 2 0 0\n" + line + "\nunit 2 0 0 0")

    def test_a_newline_at_the_end(self):
        self.assert_stops_at(4, EXAMPLE + "\n")
        self.assert_stops_at(3, "row\nfactor 4 2 0 0\n")
        self.assert_stops_at(2, "row\n")

    def test_no_line_of_a_unit(self):
        self.assert_stops_at(2, "row")
        self.assert_stops_at(3, "row\nfactor 4 2 0 0")
        self.assert_stops_at(12, "row" + "\nfactor 4 2 0 0" * 10)


class RightTextsTest(FormCase):
    """Point 73."""

    def test_examples(self):
        self.assertIs(check_text((-2, 4, 0, 0), EXAMPLE), True)
        self.assertIs(check_text([-2, 4, 0, 0], EXAMPLE), True)
        self.assertIs(check_text(FIVE, "row\nfactor 2 4 0 0\nunit 0 0 0 2"), False)
        self.assertIs(check_text(FIVE, "row\nfactor 4 2 0 0\nunit 2 0 0 0"), True)

    def test_rows_of_primitive_numbers(self):
        for number in small_numbers(5)[::53]:
            if any(number) and is_primitive(number):
                for primes in (primes_in(number), primes_in(number)[::-1]):
                    row, unit = row_of(number, primes)
                    text = row_text(row, unit)
                    self.assertIs(check_text(number, text), True)
                    self.assertIs(check_text(opposite(number), text), False)
                    self.assertIs(check_text(opposite(number), row_text(row, opposite(unit))), True)

    def test_every_unit(self):
        for unit in units():
            self.assertIs(check_text(unit, row_text([], unit)), True)
            number = number_by([THREE, FIVE], unit)
            for other in units():
                self.assertIs(check_text(number, row_text([THREE, FIVE], other)), unit == other)

    def test_numbers_that_are_not_primitive(self):
        row, unit = row_of_factors([THREE, conjugate(THREE), FIVE, FIVE, (4, -2, 0, 0)])
        number = number_by(row, unit)
        self.assertFalse(is_primitive(number))
        self.assertIs(check_text(number, row_text(row, unit)), True)

    def test_the_order_of_the_factors(self):
        number = product(THREE, FIVE)
        self.assertIs(check_text(number, row_text([THREE, FIVE], ONE)), True)
        self.assertIs(check_text(number, row_text([FIVE, THREE], ONE)), False)

    def test_another_number(self):
        text = row_text([THREE, FIVE], ONE)
        for number in [THREE, FIVE, ONE, product(FIVE, THREE), (30, 0, 0, 0), great_numbers(50, 1)[0]]:
            self.assertIs(check_text(number, text), False)

    def test_a_factor_that_is_not_canonical(self):
        for factor in [THREE, FIVE, TWO]:
            for unit in units():
                other = product(factor, unit)
                # The product is right in all of them.
                text = row_text([other, FIVE], ONE)
                self.assertIs(check_text(product(other, FIVE), text), other == factor)
                last = row_text([other], conjugate(unit))
                self.assertIs(check_text(factor, last), other == factor)

    def test_a_factor_whose_norm_is_no_prime(self):
        for factor in [ONE, (4, 0, 0, 0), canonical((6, 2, 0, 0)), canonical((6, 0, 0, 0)), canonical((6, 2, 2, 2))]:
            self.assertEqual(canonical(factor), factor)
            self.assertIs(check_text(factor, row_text([factor], ONE)), False)
            self.assertIs(check_text(product(FIVE, factor), row_text([FIVE, factor], ONE)), False)
        self.assertIs(check_text(FIVE, "row\nfactor 0 0 0 0\nunit 2 0 0 0"), False)
        self.assertIs(check_text(FIVE, "row\nfactor 4 2 0 0\nfactor 0 0 0 0\nunit 2 0 0 0"), False)

    def test_norms_up_to_the_bound(self):
        prime, = great_primes_below(10 ** 12, 1)
        number = number_of_norm(prime)
        self.assertEqual(norm(number), prime)
        text = row_text([canonical(number)], unit_behind(number))
        self.assertIs(check_text(number, text), True)
        great = canonical(GREAT_PRIME)
        self.assertGreater(norm(great), 10 ** 12)
        self.assertIs(check_text(great, row_text([great], ONE)), False)
        self.assertIs(check_text(product(THREE, great), row_text([THREE, great], ONE)), False)

    def test_a_unit_that_is_none(self):
        self.assertIs(check_text(FIVE, "row\nunit 4 2 0 0"), False)
        self.assertIs(check_text(product(THREE, FIVE), row_text([THREE], FIVE)), False)
        self.assertIs(check_text(FIVE, "row\nfactor 4 2 0 0\nunit 0 0 0 0"), False)
        self.assertIs(check_text((8, 4, 0, 0), "row\nfactor 4 2 0 0\nunit 4 0 0 0"), False)

    def test_long_rows(self):
        row = [letter for _ in range(40) for letter in primes_of(7)]
        self.assertIs(check_text(product_of([*row, I]), row_text(row, I)), True)
        self.assertIs(check_text(product_of([*row, I]), row_text(row, ONE)), False)

    def test_errors_in_their_order(self):
        for text in ["", "row", EXAMPLE, "row\nfactor 1 2 3 4\nunit 2 0 0 0"]:
            for wrong in NO_NUMBERS:
                with self.subTest(wrong, text=text), self.assertRaises(InvalidNumber):
                    check_text(wrong, text)
            for zero in (ZERO, [0, 0, 0, 0]):
                with self.subTest(text), self.assertRaises(InvalidQuestion):
                    check_text(zero, text)
        self.assert_stops_at(1, "")
        self.assert_stops_at(2, "row\nfactor 1 2 3 4\nunit 2 0 0 0")


if __name__ == "__main__":
    unittest.main()
