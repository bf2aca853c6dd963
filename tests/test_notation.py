"""Points 10 and 11: the written form of lists of numbers."""

import unittest

from samples import NO_NUMBERS, ONE, ZERO, great_numbers, sample_numbers

from turnprimes.errors import InvalidNotation, InvalidNumber
from turnprimes.notation import format_numbers, parse_numbers

GOOD = "number 2 0 0 0"
WRONG = "number 0 1 0 0"

# No line of this kind stands behind the first one.
NO_LINES = [
    "", " ", "numbers", "number", "number ", "number 2 0 0", "number 2 0 0 0 0", "number 2 0 0 0 ", " number 2 0 0 0",
    "number  2 0 0 0", "number 2 0  0 0", "number\t2 0 0 0", "number 2 0 0\t0", "number 2 0 0 0\r", "number 2 0 0 0\t",
    "Number 2 0 0 0", "numbers 2 0 0 0", "unit 2 0 0 0", "2 0 0 0", "number 2,0,0,0", "number 2 0 0 x",
    "number 2 0 0 00", "number 02 0 0 0", "number 2 0 0 -0", "number 2 0 0 -02", "number 2 0 0 +2", "number 2 0 0 --2",
    "number 2 0 0 -", "number 2 0 0 2-", "number 2 0 0 2.0", "number 2 0 0 1e2", "number 2 0 0 1_0", "number 2 0 0 0x2",
    "number 2 0 0 - 2", "number 2 0 0 \u0662", "number 2 0 0 \u00b2", "number 2 0 0 \uff12", "number\u00a02 0 0 0",
    "number 2 0 0 \u22122", "number 2 0 0 2\u2028", "number 2 0 0 0\x0b", "number 2 0 0 0\x0cnumber 2 0 0 0", "# 2 0 0 0",
    "number 1 2 3 " + "1" * 201, "number -" + "2" * 201 + " 0 0 0", "number " + "2" * 5000 + " 0 0 0",
    "number 0 0 0 0" + "0" * 199,
]

NO_FIRST_LINES = [
    "", " ", "numbers ", " numbers", "number", "Numbers", "NUMBERS", "numbers\r", "numbers\t", "numbers numbers",
    "numbers 2", "numbers:", "row", "\ufeffnumbers", GOOD, "numbers " + GOOD,
]


class FormatTest(unittest.TestCase):
    """Point 10."""

    def test_examples(self):
        self.assertEqual(format_numbers([(2, 0, 0, 0), (1, -1, 1, 3)]), "numbers\nnumber 2 0 0 0\nnumber 1 -1 1 3")

    def test_no_numbers(self):
        self.assertEqual(format_numbers([]), "numbers")
        self.assertEqual(format_numbers(()), "numbers")

    def test_order_and_lists_in_the_place_of_tuples(self):
        passed = [[1, 1, 1, 1], (0, 0, 0, 0), [-2, 4, -6, 8]]
        self.assertEqual(format_numbers(passed), "numbers\nnumber 1 1 1 1\nnumber 0 0 0 0\nnumber -2 4 -6 8")
        self.assertEqual(passed, [[1, 1, 1, 1], (0, 0, 0, 0), [-2, 4, -6, 8]])
        self.assertEqual(format_numbers((ONE, ONE)), "numbers\nnumber 2 0 0 0\nnumber 2 0 0 0")

    def test_integers_of_many_digits(self):
        for many in [1, 2, 28, 63, 64, 65, 127, 128, 129, 192, 300, 1000]:
            for part in [10 ** many, 10 ** many + 2, 10 ** many - 2, 12345678 * 10 ** many, 10 ** many // 9 * 10]:
                for value in (part, -part):
                    with self.subTest(many=many, value=value):
                        self.assertEqual(format_numbers([(0, value, 0, 0)]), f"numbers\nnumber 0 {value} 0 0")

    def test_integers_of_more_digits_than_python_writes_at_once(self):
        self.assertEqual(format_numbers([(10 ** 9000, 0, 0, 2)]), "numbers\nnumber 1" + "0" * 9000 + " 0 0 2")
        part = -(10 ** 9000 // 9) * 2
        self.assertEqual(format_numbers([(0, 0, 0, part)]), "numbers\nnumber 0 0 0 -" + "2" * 9000)

    def test_what_is_no_number(self):
        for wrong in NO_NUMBERS:
            for numbers in [[wrong], [list(wrong)], [wrong, ONE], [ONE, wrong], [ZERO, ONE, wrong]]:
                with self.subTest(numbers=numbers), self.assertRaises(InvalidNumber):
                    format_numbers(numbers)


class ParseTest(unittest.TestCase):
    """Point 11, written forms."""

    def test_examples(self):
        self.assertEqual(parse_numbers("numbers\nnumber 0 2 0 -4"), [(0, 2, 0, -4)])
        with self.assertRaises(InvalidNumber):
            parse_numbers("numbers\nnumber 0 1 0 0")

    def test_no_numbers(self):
        self.assertEqual(parse_numbers("numbers"), [])
        found = parse_numbers("numbers")
        found.append(ONE)
        self.assertEqual(parse_numbers("numbers"), [])

    def test_what_is_written_is_parsed(self):
        numbers = sample_numbers() + great_numbers(190, 4) + [ZERO, ZERO]
        found = parse_numbers(format_numbers(numbers))
        self.assertEqual(found, numbers)
        self.assertIs(type(found), list)
        self.assertTrue(all(type(number) is tuple for number in found))

    def test_integers_of_200_and_201_digits(self):
        for digits in ["1" * 200, "9" * 200, "1" + "0" * 199]:
            value = int(digits)
            number = (value, -value, value, -value)
            text = f"numbers\nnumber {digits} -{digits} {digits} -{digits}"
            self.assertEqual(parse_numbers(text), [number])
            self.assertEqual(format_numbers([number]), text)
            for word in [digits + "2", "-" + digits + "2"]:
                with self.assertRaises(InvalidNotation) as caught:
                    parse_numbers(f"numbers\n{GOOD}\nnumber 0 0 0 {word}")
                self.assertEqual(caught.exception.line, 3)

    def test_many_numbers(self):
        numbers = [(2 * at, 0, -2 * at, 4) for at in range(3000)]
        self.assertEqual(parse_numbers(format_numbers(numbers)), numbers)


class OtherFormsTest(unittest.TestCase):
    """Point 11, texts of another form."""

    def assert_line(self, text, line):
        with self.subTest(text=text):
            with self.assertRaises(InvalidNotation) as caught:
                parse_numbers(text)
            self.assertEqual(caught.exception.line, line)

    def test_the_empty_string(self):
        self.assert_line("", 1)

    def test_first_lines(self):
        for line in NO_FIRST_LINES:
            self.assert_line(line, 1)
            self.assert_line(line + "\n" + GOOD, 1)
            self.assert_line(line + "\n" + WRONG, 1)
            self.assert_line(line + "\nnumbers", 1)

    def test_lines_of_numbers(self):
        for line in NO_LINES:
            self.assert_line("numbers\n" + line, 2)
            self.assert_line("numbers\n" + GOOD + "\n" + line, 3)
            self.assert_line("numbers\n" + line + "\n" + GOOD, 2)

    def test_every_place_of_an_integer(self):
        for word in ["02", "-0", "x", "", "+2", "1" * 201]:
            for place in range(4):
                words = ["2", "0", "0", "0"]
                words[place] = word
                self.assert_line("numbers\nnumber " + " ".join(words), 2)

    def test_newlines(self):
        self.assert_line("\n", 1)
        self.assert_line("\nnumbers", 1)
        self.assert_line("numbers\n", 2)
        self.assert_line("numbers\n\n", 2)
        self.assert_line("numbers\n" + GOOD + "\n", 3)
        self.assert_line("numbers\n\n" + GOOD, 2)
        self.assert_line("numbers\n" + GOOD + "\n\n" + GOOD, 3)
        self.assert_line("numbers\r\n" + GOOD, 1)
        self.assert_line("numbers\n" + GOOD + "\r\n" + GOOD, 2)
        self.assert_line("numbers\r" + GOOD, 1)
        self.assert_line("numbers\n" + GOOD + "\u2028" + GOOD, 2)

    def test_the_first_of_two_faults_is_named(self):
        for line in NO_LINES:
            self.assert_line("\n".join(["numbers", GOOD, line, GOOD, "x"]), 3)
            self.assert_line("\n".join(["numbers", "x", GOOD, line]), 2)

    def test_the_form_comes_ahead_of_what_is_no_number(self):
        for line in NO_LINES:
            self.assert_line("\n".join(["numbers", WRONG, line]), 3)
            self.assert_line("\n".join(["numbers", line, WRONG]), 2)
            self.assert_line("\n".join(["numbers", WRONG, GOOD, line, WRONG]), 4)

    def test_what_is_no_number_in_the_right_form(self):
        for line in ["number 1 2 3 4", "number 1 0 0 0", "number 0 0 0 -1", "number 2 2 2 1"]:
            for lines in [[line], [line, GOOD], [GOOD, line], [GOOD, line, GOOD]]:
                with self.subTest(lines=lines), self.assertRaises(InvalidNumber):
                    parse_numbers("\n".join(["numbers"] + lines))


if __name__ == "__main__":
    unittest.main()
