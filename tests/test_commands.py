"""Points 65 and 66: the words of a line, and which of them are a command."""

import unittest

from turnprimes.commands import is_command, split_words

DIGITS_200 = "9" * 200
COMMANDS = [
    "set q 4 2 0 0", "set q -1 1 -1 3", "set q 1 2 3 4", "set q 0 0 0 0", "product p q r", "sum s q r",
    "conjugate c q", "remove q", "ask n norm q", "ask n content q", "ask n primes q", "ask n order q",
    "ask n same q r", "ask n common q r", "drop n", "answer n", "answers", "print q", "numbers", "questions", "undo",
    "redo", f"set q {DIGITS_200} -{DIGITS_200} 10 -10", "set abcdefghijkl 1 1 1 1", "remove z9", "ask q norm q",
    "ask norm norm norm", "set set 1 1 1 1", "print print", "product product product product", "drop a23456789012",
]
NO_COMMANDS = [
    # Other words, capitals among them.
    "q", "SET q 4 2 0 0", "Set q 4 2 0 0", "setq 4 2 0 0", "norm q", "same q r", "make p product q r", "difference d q r",
    "set_number q 4 2 0 0", "remove_number q", "quit", "0", "1 2 3 4", "answer-n", "undo!", "redo\t", "\tundo", "undo\r",
    # Too few and too many words.
    "set", "set q", "set q 1 1 1", "set q 1 1 1 1 1", "set 1 1 1 1", "product", "product p q", "product p q r s",
    "sum s q", "sum s q r t", "conjugate c", "conjugate c q r", "conjugate", "remove", "remove q r", "drop",
    "drop n m", "answer", "answer n m", "answers n", "print", "print q r", "numbers q", "questions q", "undo 1",
    "redo 2", "undo undo", "ask", "ask n", "ask n norm", "ask n norm q r", "ask n same q", "ask n same q r s",
    "ask n common", "ask n common q", "ask norm q", "ask same q r",
    # Kinds that are none.
    "ask n norms q", "ask n great q", "ask n Norm q", "ask n q norm", "ask n product q r", "ask n length q",
    # Integers that are none.
    "set q 01 1 1 1", "set q 1 1 1 00", "set q -0 0 0 0", "set q +1 1 1 1", "set q 1 1 1 a", "set q 1 1 1 1.0",
    "set q 1_0 1 1 1", "set q - 1 1 1", "set q --1 1 1 1", "set q 1 1 1 -01", "set q 1e3 1 1 1", "set q 0x1 1 1 1",
    f"set q 1{DIGITS_200} 1 1 1", f"set q 1 1 1 -1{DIGITS_200}", "set q \u0661 1 1 1", "set q \u00b2 1 1 1",
    "set q 4,2,0,0", "set q (4 2 0 0)",
    # Names that are none.
    "set Q 1 1 1 1", "set 1q 1 1 1 1", "set q_r 1 1 1 1", "set abcdefghijklm 1 1 1 1", "remove a234567890123",
    "product P q r", "product p Q r", "product p q R", "sum p q -", "conjugate c 1", "conjugate 1 c", "ask N norm q",
    "ask n norm Q", "ask n same q R", "ask n same Q r", "ask 1 norm q", "drop N", "answer 1", "print \u00e4", "print q\t",
]


class WordsTest(unittest.TestCase):
    """Point 65."""

    def test_words(self):
        self.assertEqual(split_words("set q 4 2 0 0"), ["set", "q", "4", "2", "0", "0"])
        self.assertEqual(split_words("undo"), ["undo"])

    def test_spaces_at_both_ends_and_several_in_a_row(self):
        self.assertEqual(split_words("  print   q  "), ["print", "q"])
        self.assertEqual(split_words(" undo"), ["undo"])
        self.assertEqual(split_words("undo "), ["undo"])

    def test_lines_without_words(self):
        for line in ["", " ", "     "]:
            self.assertEqual(split_words(line), [])

    def test_spaces_alone_part_words(self):
        for sign in "\t\r\x0b\x0c\xa0\u2003":
            self.assertEqual(split_words(f"print{sign}q r"), [f"print{sign}q", "r"])
            self.assertEqual(split_words(sign), [sign])

    def test_a_new_list(self):
        self.assertIs(type(split_words("a b")), list)


class CommandsTest(unittest.TestCase):
    """Point 66."""

    def test_commands(self):
        for line in COMMANDS:
            with self.subTest(line):
                self.assertIs(is_command(line.split(" ")), True)

    def test_no_commands(self):
        for line in NO_COMMANDS:
            with self.subTest(line):
                self.assertIs(is_command(line.split(" ")), False)

    def test_each_command_with_a_word_more_or_less(self):
        for line in COMMANDS:
            words = line.split(" ")
            with self.subTest(line):
                self.assertIs(is_command([*words, "q"]), False)
                self.assertIs(is_command([*words, "1"]), False)
                if len(words) > 1:
                    self.assertIs(is_command(words[:-1]), words[:-1] == ["answers"])

    def test_each_word_of_a_command_counts(self):
        for line in COMMANDS:
            words = line.split(" ")
            for at in range(len(words)):
                for wrong in ("Q", "", " ", "q\n", "-q"):
                    with self.subTest(line, at=at, wrong=wrong):
                        self.assertIs(is_command(words[:at] + [wrong] + words[at + 1:]), False)

    def test_words_that_are_passed_stay(self):
        words = ["ask", "n", "same", "q", "r"]
        is_command(words)
        self.assertEqual(words, ["ask", "n", "same", "q", "r"])


if __name__ == "__main__":
    unittest.main()
