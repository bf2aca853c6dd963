"""Point 60: what is a name."""

import unittest

from turnprimes.names import is_name


class NamesTest(unittest.TestCase):
    def test_names(self):
        for text in ["a", "z", "q1", "a0", "z9", "abc", "a1b2c3", "abcdefghijkl", "a23456789012", "zzzzzzzzzzzz", "norm"]:
            with self.subTest(text):
                self.assertIs(is_name(text), True)

    def test_every_letter_and_digit(self):
        for sign in "abcdefghijklmnopqrstuvwxyz":
            self.assertIs(is_name(sign), True)
            self.assertIs(is_name("q" + sign), True)
        for sign in "0123456789":
            self.assertIs(is_name(sign), False)
            self.assertIs(is_name(sign + "q"), False)
            self.assertIs(is_name("q" + sign), True)

    def test_1_to_12_characters(self):
        for many in range(30):
            self.assertIs(is_name("a" * many), 1 <= many <= 12)
            self.assertIs(is_name("q" + "7" * many), many <= 11)
        self.assertIs(is_name(""), False)
        self.assertIs(is_name("abcdefghijklm"), False)

    def test_other_signs(self):
        for sign in [chr(at) for at in range(1, 128)] + ["\u00e4", "\u00df", "\u0661", "\u00b2", "\u0430", "\uff41", "\u0131"]:
            allowed = sign in "abcdefghijklmnopqrstuvwxyz0123456789"
            for text in ["a" + sign, "a" + sign + "b", "ab9" + sign]:
                with self.subTest(text):
                    self.assertIs(is_name(text), allowed)
            if not allowed:
                self.assertIs(is_name(sign), False)
                self.assertIs(is_name(sign + "a"), False)

    def test_capital_letters_blanks_and_newlines(self):
        for text in ["A", "Q1", "qA", " ", " q", "q ", "q r", "q\n", "\nq", "q\t", "q_r", "_q", "q-1", "-", "q.r", "0x", "12"]:
            with self.subTest(text):
                self.assertIs(is_name(text), False)


if __name__ == "__main__":
    unittest.main()
