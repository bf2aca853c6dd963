"""Points 65 to 68: sessions."""

import unittest

from turnprimes.desk import Desk
from turnprimes.numbers import product
from turnprimes.session import Session

EXAMPLE = "set q 4 2 0 0\nproduct r q q\nprint r\nask n norm r\nask o order r\nanswers\nset z 1 2 0 0"
DIGITS_200 = "9" * 200


def run(*lines):
    """What a new session answers to lines."""
    return Session().run("\n".join(lines))


class SessionTest(unittest.TestCase):
    """Points 65 and 67."""

    def test_example(self):
        self.assertEqual(
            Session().run(EXAMPLE),
            ["ok", "ok", "r: 6 8 0 0", "ok", "ok", "n: norm 25", "o: endless", "line 7: invalid number"],
        )

    def test_the_desk(self):
        session = Session()
        self.assertIs(type(session.desk), Desk)
        self.assertEqual(session.desk.number_names(), [])
        session.run("set q 4 2 0 0\nask n norm q")
        self.assertEqual(session.desk.number("q"), (4, 2, 0, 0))
        self.assertEqual(session.desk.question("n"), ("norm", ("q",)))
        session.desk.set_number("r", (3, 1, 1, 1))
        self.assertEqual(session.run("print r"), ["r: 3 1 1 1"])
        self.assertIsNot(Session().desk, session.desk)
        self.assertEqual(Session().desk.number_names(), [])

    def test_set_and_print(self):
        self.assertEqual(
            run("set q 4 2 0 0", "print q", "set q -1 3 -5 7", "print q", "set r -2 0 0 0", "print r", "numbers"),
            ["ok", "q: 4 2 0 0", "ok", "q: -1 3 -5 7", "ok", "r: -2 0 0 0", "numbers: q r"],
        )

    def test_integers_of_200_digits(self):
        line = f"q: {DIGITS_200} -{DIGITS_200} 1 -1"
        self.assertEqual(run(f"set q {DIGITS_200} -{DIGITS_200} 1 -1", "print q"), ["ok", line])
        self.assertEqual(run(f"set q 1{DIGITS_200} 1 1 1"), ["line 1: invalid command"])

    def test_integers_that_grow(self):
        session = Session()
        session.run(f"set q {DIGITS_200} 1 1 1")
        for _ in range(6):
            self.assertEqual(session.run("product q q q"), ["ok"])
        found, = session.run("print q")
        expected = (10 ** 200 - 1, 1, 1, 1)
        for _ in range(6):
            expected = product(expected, expected)
        self.assertEqual(session.desk.number("q"), expected)
        parts = found.removeprefix("q: ").split(" ")
        self.assertGreater(len(parts[0].lstrip("-")), 6000)
        for part, value in zip(parts, expected):
            digits = part.lstrip("-")
            made = 0
            for at in range(0, len(digits), 1000):
                block = digits[at:at + 1000]
                made = made * 10 ** len(block) + int(block)
            self.assertEqual(-made if part.startswith("-") else made, value)

    def test_numbers_that_are_made(self):
        self.assertEqual(
            run("set q 4 2 0 0", "set r 0 0 2 0", "product p q r", "print p", "product p r q", "print p", "sum p q r",
                "print p", "conjugate p q", "print p", "conjugate p p", "print p"),
            ["ok", "ok", "ok", "p: 0 0 4 2", "ok", "p: 0 0 4 -2", "ok", "p: 4 2 2 0", "ok", "p: 4 -2 0 0", "ok",
             "p: 4 2 0 0"],
        )

    def test_every_kind_of_question(self):
        session = Session()
        session.run("set q 12 0 0 0\nset r 4 2 0 0\nset s 2000000 2 0 0\nset t -1 -1 -1 -1")
        lines = [
            "ask a norm q", "ask b content q", "ask c primes q", "ask d order q", "ask e same q t", "ask f common q r",
            "ask g order r", "ask h primes s", "ask i same q q", "ask j primes t", "ask k order t",
        ]
        self.assertEqual(session.run("\n".join(lines)), ["ok"] * 11)
        expected = [
            "a: norm 36", "b: content 6", "c: primes 2 2 3 3", "d: order 1", "e: no", "f: common 2 0 0 0",
            "g: endless", "h: great", "i: yes", "j: primes", "k: order 3",
        ]
        self.assertEqual(session.run("answers"), expected)
        for name, line in zip("abcdefghijk", expected):
            self.assertEqual(session.run(f"answer {name}"), [line])

    def test_common_with_negative_parts(self):
        self.assertEqual(
            run("set q 6 0 0 0", "set r 2 2 2 0", "ask n common q r", "answer n"),
            ["ok", "ok", "ok", "n: common 3 1 -1 1"],
        )

    def test_answers_are_asked_once_each(self):
        session = Session()
        session.run("set q 4 2 0 0\nask n norm q\nask m norm q\nask o order q")
        self.assertEqual((session.desk.decided, session.desk.kept), (0, 0))
        self.assertEqual(session.run("answers"), ["m: norm 5", "n: norm 5", "o: endless"])
        self.assertEqual((session.desk.decided, session.desk.kept), (2, 1))
        session.run("answer n")
        self.assertEqual((session.desk.decided, session.desk.kept), (2, 2))
        session.run("answer x\nprint q\nquestions\nnumbers\nundo\nredo")
        self.assertEqual((session.desk.decided, session.desk.kept), (2, 2))

    def test_names_that_are_told(self):
        self.assertEqual(run("numbers", "questions", "answers"), ["numbers:", "questions:"])
        self.assertEqual(
            run("set b 4 2 0 0", "set a10 1 1 1 1", "set a9 1 1 1 1", "ask z norm b", "ask b norm b", "numbers",
                "questions"),
            ["ok"] * 5 + ["numbers: a10 a9 b", "questions: b z"],
        )

    def test_removing_and_dropping(self):
        self.assertEqual(
            run("set q 4 2 0 0", "ask n norm q", "remove q", "drop n", "questions", "remove q", "numbers", "print q"),
            ["ok", "ok", "line 3: name in use q", "ok", "questions:", "ok", "numbers:", "line 8: unknown name q"],
        )

    def test_a_question_that_is_replaced(self):
        self.assertEqual(
            run("set q 4 2 0 0", "ask n norm q", "answer n", "ask n content q", "answer n"),
            ["ok", "ok", "n: norm 5", "ok", "n: content 1"],
        )

    def test_one_name_of_a_number_and_of_a_question(self):
        self.assertEqual(
            run("set q 4 2 0 0", "ask q norm q", "print q", "answer q", "numbers", "questions"),
            ["ok", "ok", "q: 4 2 0 0", "q: norm 5", "numbers: q", "questions: q"],
        )

    def test_undo_and_redo(self):
        self.assertEqual(
            run("set q 4 2 0 0", "set q 1 1 1 1", "undo", "print q", "redo", "print q", "undo", "undo", "numbers", "redo",
                "print q", "set r 1 1 1 1", "redo"),
            ["ok", "ok", "ok", "q: 4 2 0 0", "ok", "q: 1 1 1 1", "ok", "ok", "numbers:", "ok", "q: 4 2 0 0", "ok",
             "line 13: nothing to redo"],
        )

    def test_names_of_12_and_of_13_characters(self):
        self.assertEqual(
            run("set abcdefghijkl 4 2 0 0", "print abcdefghijkl", "set abcdefghijklm 4 2 0 0", "print abcdefghijklm"),
            ["ok", "abcdefghijkl: 4 2 0 0", "line 3: invalid command", "line 4: invalid command"],
        )


class LinesTest(unittest.TestCase):
    """Point 65."""

    def test_no_lines(self):
        for text in ["", " ", "\n", "\n\n", "  \n   \n"]:
            self.assertEqual(Session().run(text), [])

    def test_empty_lines_have_numbers(self):
        self.assertEqual(
            Session().run("\n\nfoo\n   \nset q 1 2 3 4\n\nundo\n"),
            ["line 3: invalid command", "line 5: invalid number", "line 7: nothing to undo"],
        )

    def test_spaces(self):
        self.assertEqual(
            Session().run("   set  q   4 2 0    0  \n print q \n   undo"), ["ok", "q: 4 2 0 0", "ok"],
        )

    def test_other_white_space_is_no_space(self):
        self.assertEqual(Session().run("numbers\t"), ["line 1: invalid command"])
        self.assertEqual(Session().run("numbers\r\nnumbers"), ["line 1: invalid command", "numbers:"])
        self.assertEqual(Session().run("\t"), ["line 1: invalid command"])
        self.assertEqual(Session().run("numbers\x0bnumbers\x0cnumbers"), ["line 1: invalid command"])

    def test_lines_are_numbered_from_1_in_each_call(self):
        session = Session()
        self.assertEqual(session.run("set q 4 2 0 0\n\nfoo"), ["ok", "line 3: invalid command"])
        self.assertEqual(session.run("print q\nfoo"), ["q: 4 2 0 0", "line 2: invalid command"])
        self.assertEqual(session.run("foo"), ["line 1: invalid command"])

    def test_a_new_list_each_time(self):
        session = Session()
        found = session.run("numbers")
        self.assertIs(type(found), list)
        found.append("more")
        self.assertEqual(session.run("numbers"), ["numbers:"])


class FaultsTest(unittest.TestCase):
    """Point 68."""

    def test_invalid_command(self):
        for line in [
            "foo", "set q", "set q 01 0 0 0", "set q -0 0 0 0", "set Q 4 2 0 0", "undo 1", "ask n norms q",
            "ask n same q", "answers n", "product p q", "Undo",
        ]:
            session = Session()
            session.run("set q 4 2 0 0\nask n norm q")
            self.assertEqual(session.run(line), ["line 1: invalid command"])
            self.assertEqual(session.desk.number_names(), ["q"])
            self.assertEqual(session.desk.question("n"), ("norm", ("q",)))

    def test_the_words_alone_decide(self):
        self.assertEqual(
            run("ask n norms x", "ask n norm x", "product p x y z", "product p x y", "remove X", "remove x"),
            ["line 1: invalid command", "line 2: unknown name x", "line 3: invalid command", "line 4: unknown name x",
             "line 5: invalid command", "line 6: unknown name x"],
        )

    def test_unknown_name(self):
        session = Session()
        session.run("set q 4 2 0 0\nask n norm q")
        for line, name in [
            ("product p x y", "x"), ("product p q y", "y"), ("sum p x q", "x"), ("conjugate x2 x1", "x1"),
            ("remove x", "x"), ("remove n", "n"), ("ask m norm x", "x"), ("ask m same q x", "x"),
            ("ask m common x y", "x"), ("drop x", "x"), ("drop q", "q"), ("answer x", "x"), ("answer q", "q"),
            ("print x", "x"), ("print n", "n"),
        ]:
            with self.subTest(line):
                self.assertEqual(session.run(line), [f"line 1: unknown name {name}"])
                self.assertEqual((session.run("numbers"), session.run("questions")), (["numbers: q"], ["questions: n"]))

    def test_name_in_use(self):
        self.assertEqual(
            run("set q 4 2 0 0", "set r 1 1 1 1", "ask n same q r", "", "remove r", "remove q"),
            ["ok", "ok", "ok", "line 5: name in use r", "line 6: name in use q"],
        )

    def test_invalid_number(self):
        self.assertEqual(
            run("set q 1 2 3 4", "set q 0 0 0 1", "set q 1 1 1 0", "numbers"),
            ["line 1: invalid number", "line 2: invalid number", "line 3: invalid number", "numbers:"],
        )

    def test_invalid_question(self):
        self.assertEqual(
            run("set q 0 0 0 0", "set q 4 2 0 0", "set r -4 -2 0 0", "sum s q r", "numbers"),
            ["line 1: invalid question", "ok", "ok", "line 4: invalid question", "numbers: q r"],
        )

    def test_nothing_to_undo_and_to_redo(self):
        self.assertEqual(
            run("undo", "redo", "set q 4 2 0 0", "redo", "undo", "undo", "redo", "redo"),
            ["line 1: nothing to undo", "line 2: nothing to redo", "ok", "line 4: nothing to redo", "ok",
             "line 6: nothing to undo", "ok", "line 8: nothing to redo"],
        )

    def test_a_fault_leaves_what_can_be_made_again(self):
        self.assertEqual(
            run("set q 4 2 0 0", "undo", "set q 1 2 3 4", "remove q", "foo", "redo", "print q"),
            ["ok", "ok", "line 3: invalid number", "line 4: unknown name q", "line 5: invalid command", "ok",
             "q: 4 2 0 0"],
        )

    def test_the_lines_behind_are_done_as_usual(self):
        self.assertEqual(
            run("foo", "set q 4 2 0 0", "print x", "print q"),
            ["line 1: invalid command", "ok", "line 3: unknown name x", "q: 4 2 0 0"],
        )


if __name__ == "__main__":
    unittest.main()
