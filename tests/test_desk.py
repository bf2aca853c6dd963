"""Points 60 to 64: the desk, its changes, undo and redo, and the answers that are kept."""

import unittest
from itertools import product as every

from samples import GREAT_PRIME, NO_NUMBERS, ONE, ZERO, great_numbers, primes_in, sample_numbers

from turnprimes.common import left_common
from turnprimes.desk import Desk, decide
from turnprimes.errors import (
    InvalidNumber, InvalidQuestion, NameInUse, NothingToRedo, NothingToUndo, TurnprimesError, UnknownName,
)
from turnprimes.numbers import added, conjugate, content, norm, opposite, product, times
from turnprimes.turns import are_one_turn, order_of, turn_of

I = (0, 2, 0, 0)
J = (0, 0, 2, 0)
THREE = (3, 1, 1, 1)
FIVE = (4, 2, 0, 0)
SEVEN = (4, 2, 2, 2)
KINDS = {"norm": 1, "content": 1, "primes": 1, "order": 1, "same": 2, "common": 2}
OTHER_KINDS = ["", "Norm", "norms", "great", "endless", "product", "sum", "yes", "number"]


def filled():
    """A desk with three numbers and three questions."""
    desk = Desk()
    desk.set_number("q", FIVE)
    desk.set_number("r", THREE)
    desk.set_number("s", SEVEN)
    desk.ask("n", "norm", ["q"])
    desk.ask("c", "common", ["r", "s"])
    desk.ask("q", "same", ["q", "q"])
    return desk


def look(desk):
    """All that is defined on a desk."""
    numbers = {name: desk.number(name) for name in desk.number_names()}
    questions = {name: desk.question(name) for name in desk.question_names()}
    return (numbers, questions)


def history(desk):
    """What is seen by taking back all changes and making them again; the desk is left as it was."""
    seen = []
    ahead = 0
    try:
        while True:
            desk.redo()
            ahead += 1
    except NothingToRedo:
        pass
    steps = 0
    try:
        while True:
            seen.append(look(desk))
            desk.undo()
            steps += 1
    except NothingToUndo:
        pass
    for _ in range(steps - ahead):
        desk.redo()
    return (steps, ahead, seen)


class DeskCase(unittest.TestCase):
    def assert_raises_just(self, error, action, *arguments):
        with self.assertRaises(error) as caught:
            action(*arguments)
        self.assertIs(type(caught.exception), error)
        return caught.exception

    def assert_unknown(self, name, action, *arguments):
        self.assertEqual(self.assert_raises_just(UnknownName, action, *arguments).name, name)


class DecideTest(DeskCase):
    """Point 63, and the errors of decide."""

    def test_norm(self):
        for number in sample_numbers():
            if any(number):
                self.assertEqual(decide("norm", [number]), ("norm", norm(number)))
        self.assertEqual(decide("norm", [FIVE]), ("norm", 5))

    def test_content(self):
        for number in sample_numbers():
            if any(number):
                self.assertEqual(decide("content", [times(number, 6)]), ("content", 6 * content(number)))
        self.assertEqual(decide("content", [(2, 2, 2, 2)]), ("content", 2))
        self.assertEqual(decide("content", [ONE]), ("content", 1))

    def test_primes(self):
        for number in sample_numbers():
            if any(number) and norm(number) < 10 ** 5:
                self.assertEqual(decide("primes", [number]), ("primes", *primes_in(number)))
        self.assertEqual(decide("primes", [ONE]), ("primes",))
        self.assertEqual(decide("primes", [(1, 1, 1, 1)]), ("primes",))
        self.assertEqual(decide("primes", [(12, 0, 0, 0)]), ("primes", 2, 2, 3, 3))
        self.assertEqual(decide("primes", [(2 * 10 ** 6, 0, 0, 0)]), ("primes",) + (2,) * 12 + (5,) * 12)

    def test_primes_of_great_norms(self):
        self.assertEqual(norm((2 * 10 ** 6, 2, 0, 0)), 10 ** 12 + 1)
        for number in [(2 * 10 ** 6, 2, 0, 0), GREAT_PRIME, (2 * 10 ** 9, 0, 0, 0), *great_numbers(50, 3)]:
            self.assertEqual(decide("primes", [number]), ("great",))

    def test_order(self):
        for number in sample_numbers():
            if any(number):
                order = order_of(turn_of(number))
                self.assertEqual(decide("order", [number]), ("endless",) if order is None else ("order", order))
        self.assertEqual(decide("order", [ONE]), ("order", 1))
        self.assertEqual(decide("order", [(-6, 0, 0, 0)]), ("order", 1))
        self.assertEqual(decide("order", [I]), ("order", 2))
        self.assertEqual(decide("order", [(1, 1, 1, 1)]), ("order", 3))
        self.assertEqual(decide("order", [(2, 2, 0, 0)]), ("order", 4))
        self.assertEqual(decide("order", [THREE]), ("order", 6))
        self.assertEqual(decide("order", [FIVE]), ("endless",))

    def test_same(self):
        for one, other in every(sample_numbers()[::6], repeat=2):
            if any(one) and any(other):
                self.assertEqual(decide("same", [one, other]), ("yes",) if are_one_turn(one, other) else ("no",))
        self.assertEqual(decide("same", [FIVE, (-8, -4, 0, 0)]), ("yes",))
        self.assertEqual(decide("same", [FIVE, (4, -2, 0, 0)]), ("no",))

    def test_common(self):
        for one, other in every(sample_numbers()[::6], repeat=2):
            if any(one) and any(other):
                self.assertEqual(decide("common", [one, other]), ("common", *left_common(one, other)))
        self.assertEqual(decide("common", [(6, 0, 0, 0), (2, 2, 2, 0)]), ("common", 3, 1, -1, 1))
        number = product(FIVE, THREE)
        self.assertEqual(decide("common", [number, FIVE]), ("common", 4, 2, 0, 0))
        self.assertNotEqual(decide("common", [number, THREE]), ("common", 3, 1, 1, 1))

    def test_numbers_may_be_lists_and_stay(self):
        numbers = [[6, 0, 0, 0], [2, 2, 2, 0]]
        self.assertEqual(decide("common", numbers), ("common", 3, 1, -1, 1))
        self.assertEqual(numbers, [[6, 0, 0, 0], [2, 2, 2, 0]])
        for kind, many in KINDS.items():
            self.assertIs(type(decide(kind, numbers[:many])), tuple)

    def test_other_kinds_and_other_numbers_of_numbers(self):
        for kind in OTHER_KINDS:
            for many in range(4):
                self.assert_raises_just(InvalidQuestion, decide, kind, [FIVE] * many)
        for kind, right in KINDS.items():
            for many in range(5):
                if many != right:
                    self.assert_raises_just(InvalidQuestion, decide, kind, [FIVE] * many)

    def test_the_kind_comes_ahead_of_the_numbers(self):
        self.assert_raises_just(InvalidQuestion, decide, "norms", [(1, 2, 3, 4)])
        self.assert_raises_just(InvalidQuestion, decide, "norm", [(1, 2, 3, 4), FIVE])
        self.assert_raises_just(InvalidQuestion, decide, "same", [(1, 2, 3, 4)])

    def test_what_is_no_number_or_zero(self):
        for kind, many in KINDS.items():
            for wrong in NO_NUMBERS:
                for at in range(many):
                    numbers = [FIVE] * many
                    numbers[at] = wrong
                    self.assert_raises_just(InvalidNumber, decide, kind, numbers)
            for at in range(many):
                numbers = [FIVE] * many
                numbers[at] = ZERO
                self.assert_raises_just(InvalidQuestion, decide, kind, numbers)

    def test_the_first_of_two_wrong_numbers_comes_first(self):
        for kind in ("same", "common"):
            self.assert_raises_just(InvalidQuestion, decide, kind, [ZERO, (1, 2, 3, 4)])
            self.assert_raises_just(InvalidNumber, decide, kind, [(1, 2, 3, 4), ZERO])


class ChangesTest(DeskCase):
    """Points 60 and 61."""

    def test_an_empty_desk(self):
        desk = Desk()
        self.assertEqual((desk.number_names(), desk.question_names(), desk.answers()), ([], [], []))
        self.assertEqual((desk.decided, desk.kept), (0, 0))
        for action in (desk.number, desk.question, desk.answer, desk.remove_number, desk.drop):
            self.assert_unknown("q", action, "q")
        self.assert_raises_just(NothingToUndo, desk.undo)
        self.assert_raises_just(NothingToRedo, desk.redo)

    def test_desks_are_apart(self):
        one, other = filled(), Desk()
        self.assertEqual(look(other), ({}, {}))
        one.answer("n")
        self.assertEqual((other.decided, other.kept), (0, 0))

    def test_numbers(self):
        desk = Desk()
        self.assertIsNone(desk.set_number("q", FIVE))
        self.assertIsNone(desk.set_number("a", [3, 1, 1, 1]))
        self.assertEqual(desk.number("q"), FIVE)
        self.assertEqual(desk.number("a"), THREE)
        self.assertIs(type(desk.number("a")), tuple)
        self.assertEqual(desk.number_names(), ["a", "q"])
        desk.set_number("q", SEVEN)
        self.assertEqual(desk.number("q"), SEVEN)
        self.assertEqual(desk.number_names(), ["a", "q"])
        self.assertIsNone(desk.remove_number("a"))
        self.assertEqual(desk.number_names(), ["q"])
        self.assert_unknown("a", desk.number, "a")

    def test_names_in_ascending_order(self):
        desk = Desk()
        for name in ["b", "a10", "a9", "z", "a", "aa"]:
            desk.set_number(name, FIVE)
            desk.ask(name, "norm", [name])
        expected = ["a", "a10", "a9", "aa", "b", "z"]
        self.assertEqual(desk.number_names(), expected)
        self.assertEqual(desk.question_names(), expected)
        self.assertEqual([name for name, _ in desk.answers()], expected)

    def test_lists_that_are_returned_are_new(self):
        desk = filled()
        before = look(desk)
        for action in (desk.number_names, desk.question_names, desk.answers):
            found = action()
            self.assertIs(type(found), list)
            found.clear()
            self.assertEqual(len(action()), 3)
        self.assertEqual(look(desk), before)

    def test_make(self):
        desk = filled()
        self.assertIsNone(desk.make("p", "product", ["q", "r"]))
        self.assertEqual(desk.number("p"), product(FIVE, THREE))
        desk.make("p", "product", ["r", "q"])
        self.assertEqual(desk.number("p"), product(THREE, FIVE))
        self.assertNotEqual(product(FIVE, THREE), product(THREE, FIVE))
        desk.make("p", "sum", ["q", "r"])
        self.assertEqual(desk.number("p"), added(FIVE, THREE))
        desk.make("p", "conjugate", ["q"])
        self.assertEqual(desk.number("p"), conjugate(FIVE))
        desk.make("p", "product", ["q", "q"])
        self.assertEqual(desk.number("p"), (6, 8, 0, 0))

    def test_make_under_a_name_of_what_it_is_made_of(self):
        desk = filled()
        desk.make("q", "product", ["q", "r"])
        self.assertEqual(desk.number("q"), product(FIVE, THREE))
        desk.make("q", "conjugate", ["q"])
        self.assertEqual(desk.number("q"), conjugate(product(FIVE, THREE)))

    def test_what_is_made_stays_when_what_it_is_made_of_changes(self):
        desk = filled()
        desk.make("p", "product", ["q", "r"])
        desk.set_number("r", SEVEN)
        desk.drop("c")
        desk.remove_number("r")
        self.assertEqual(desk.number("p"), product(FIVE, THREE))

    def test_questions(self):
        desk = filled()
        self.assertEqual(desk.question("n"), ("norm", ("q",)))
        self.assertEqual(desk.question("c"), ("common", ("r", "s")))
        self.assertEqual(desk.question_names(), ["c", "n", "q"])
        self.assertIsNone(desk.ask("n", "same", ["r", "q"]))
        self.assertEqual(desk.question("n"), ("same", ("r", "q")))
        self.assertIsNone(desk.drop("n"))
        self.assertEqual(desk.question_names(), ["c", "q"])
        self.assert_unknown("n", desk.question, "n")

    def test_every_kind_of_question(self):
        desk = filled()
        for kind, many in KINDS.items():
            names = ["q", "r"][:many]
            desk.ask(kind, kind, names)
            self.assertEqual(desk.question(kind), (kind, tuple(names)))
            self.assertEqual(desk.answer(kind), decide(kind, [FIVE, THREE][:many]))

    def test_one_name_of_a_number_and_of_a_question(self):
        desk = filled()
        self.assertEqual(desk.number("q"), FIVE)
        self.assertEqual(desk.question("q"), ("same", ("q", "q")))
        desk.drop("q")
        self.assertEqual(desk.number("q"), FIVE)
        self.assert_unknown("q", desk.question, "q")
        desk.ask("s", "norm", ["r"])
        desk.drop("c")
        desk.remove_number("s")
        self.assertEqual(desk.question("s"), ("norm", ("r",)))
        self.assert_unknown("s", desk.number, "s")

    def test_a_question_is_about_the_number_that_is_there_now(self):
        desk = filled()
        self.assertEqual(desk.answer("n"), ("norm", 5))
        desk.set_number("q", SEVEN)
        self.assertEqual(desk.answer("n"), ("norm", 7))
        desk.make("q", "product", ["q", "q"])
        self.assertEqual(desk.answer("n"), ("norm", 49))

    def test_names_of_another_form_are_taken(self):
        desk = Desk()
        for name in ["", "Q", "9", "a b", "much longer than twelve"]:
            desk.set_number(name, FIVE)
            desk.ask(name, "norm", [name])
            self.assertEqual(desk.answer(name), ("norm", 5))

    def test_lists_that_are_passed_and_changed_later(self):
        desk = Desk()
        number, names = [4, 2, 0, 0], ["q"]
        changes = [("set_number", "r", number), ("ask", "m", "norm", names)]
        desk.set_number("q", number)
        desk.ask("n", "norm", names)
        desk.change_all(changes)
        made_of = ["q", "r"]
        desk.make("p", "product", made_of)
        self.assertEqual((number, names, made_of), ([4, 2, 0, 0], ["q"], ["q", "r"]))
        self.assertEqual(changes, [("set_number", "r", number), ("ask", "m", "norm", names)])
        number[0] = 100
        names[0] = "z"
        made_of.clear()
        changes.clear()
        self.assertEqual(look(desk)[0], {"p": (6, 8, 0, 0), "q": FIVE, "r": FIVE})
        self.assertEqual(look(desk)[1], {"m": ("norm", ("q",)), "n": ("norm", ("q",))})
        for _ in range(5):
            desk.undo()
        for _ in range(5):
            desk.redo()
        self.assertEqual(look(desk)[0], {"p": (6, 8, 0, 0), "q": FIVE, "r": FIVE})
        self.assertEqual(desk.answers(), [("m", ("norm", 5)), ("n", ("norm", 5))])


class ErrorsTest(DeskCase):
    """The errors of point 61, which change nothing."""

    def setUp(self):
        self.desk = filled()
        self.desk.set_number("last", FIVE)
        self.desk.set_number("later", FIVE)
        self.desk.undo()
        self.desk.undo()
        self.before = history(self.desk)
        self.assertEqual(self.before[:2], (8, 2))

    def tearDown(self):
        # Nothing is changed, and what can be redone stays.
        self.assertEqual(history(self.desk), self.before)
        self.assertEqual((self.desk.decided, self.desk.kept), (0, 0))

    def test_set_number(self):
        for name in ("q", "new"):
            for wrong in NO_NUMBERS:
                self.assert_raises_just(InvalidNumber, self.desk.set_number, name, wrong)
            for zero in (ZERO, [0, 0, 0, 0]):
                self.assert_raises_just(InvalidQuestion, self.desk.set_number, name, zero)

    def test_make_of_what_is_not_there(self):
        for deed in ["product", "sum", "conjugate", "difference", ""]:
            self.assert_unknown("x", self.desk.make, "p", deed, ["x"])
            self.assert_unknown("x", self.desk.make, "p", deed, ["q", "x"])
            self.assert_unknown("x", self.desk.make, "p", deed, ["x", "y"])
            self.assert_unknown("y", self.desk.make, "p", deed, ["y", "x"])
            self.assert_unknown("z", self.desk.make, "p", deed, ["q", "r", "s", "z"])
        # The name of a question alone is no name of a number.
        self.assert_unknown("n", self.desk.make, "p", "conjugate", ["n"])
        self.assert_unknown("p", self.desk.make, "p", "conjugate", ["p"])

    def test_make_by_another_deed(self):
        for deed in ["", "Product", "products", "difference", "norm", "opposite", "times", "make"]:
            for names in [[], ["q"], ["q", "r"], ["q", "r", "s"]]:
                self.assert_raises_just(InvalidQuestion, self.desk.make, "p", deed, names)

    def test_make_of_another_number_of_numbers(self):
        for names in [[], ["q"], ["q", "r", "s"]]:
            self.assert_raises_just(InvalidQuestion, self.desk.make, "p", "product", names)
            self.assert_raises_just(InvalidQuestion, self.desk.make, "q", "sum", names)
        for names in [[], ["q", "r"], ["q", "q"], ["q", "r", "s"]]:
            self.assert_raises_just(InvalidQuestion, self.desk.make, "p", "conjugate", names)

    def test_remove_number(self):
        self.assert_unknown("x", self.desk.remove_number, "x")
        self.assert_unknown("n", self.desk.remove_number, "n")
        for name in ("q", "r", "s"):
            self.assertEqual(self.assert_raises_just(NameInUse, self.desk.remove_number, name).name, name)

    def test_ask_about_what_is_not_there(self):
        for kind in [*KINDS, *OTHER_KINDS]:
            self.assert_unknown("x", self.desk.ask, "n", kind, ["x"])
            self.assert_unknown("x", self.desk.ask, "new", kind, ["q", "x"])
            self.assert_unknown("y", self.desk.ask, "new", kind, ["y", "x"])
            self.assert_unknown("z", self.desk.ask, "new", kind, ["q", "r", "s", "z"])
        self.assert_unknown("n", self.desk.ask, "n", "norm", ["n"])

    def test_ask_another_kind_or_another_number_of_numbers(self):
        for kind in OTHER_KINDS:
            for names in [[], ["q"], ["q", "r"], ["q", "r", "s"]]:
                self.assert_raises_just(InvalidQuestion, self.desk.ask, "n", kind, names)
        for kind, right in KINDS.items():
            for names in [[], ["q"], ["q", "r"], ["q", "r", "s"]]:
                if len(names) != right:
                    self.assert_raises_just(InvalidQuestion, self.desk.ask, "new", kind, names)

    def test_drop(self):
        self.assert_unknown("x", self.desk.drop, "x")
        self.assert_unknown("r", self.desk.drop, "r")

    def test_look(self):
        for action in (self.desk.question, self.desk.answer):
            self.assert_unknown("r", action, "r")
            self.assert_unknown("", action, "")
        self.assert_unknown("n", self.desk.number, "n")

    def test_all_errors_are_those_of_the_program(self):
        for error in (InvalidNumber, InvalidQuestion, UnknownName, NameInUse, NothingToUndo, NothingToRedo):
            self.assertTrue(issubclass(error, TurnprimesError))


class ZeroTest(DeskCase):
    """Point 61: zero that is made."""

    def test_a_sum_that_is_zero(self):
        desk = Desk()
        desk.set_number("q", FIVE)
        desk.set_number("r", opposite(FIVE))
        desk.set_number("s", THREE)
        desk.undo()
        before = history(desk)
        for name in ("q", "new"):
            self.assert_raises_just(InvalidQuestion, desk.make, name, "sum", ["q", "r"])
        self.assertEqual(history(desk), before)
        desk.make("p", "product", ["q", "r"])
        self.assertEqual(desk.number("p"), opposite(product(FIVE, FIVE)))
        desk.make("p", "sum", ["q", "q"])
        self.assertEqual(desk.number("p"), (8, 4, 0, 0))

    def test_a_number_that_no_question_is_about_any_more_is_removed(self):
        desk = filled()
        self.assert_raises_just(NameInUse, desk.remove_number, "r")
        desk.ask("c", "common", ["s", "s"])
        desk.remove_number("r")
        self.assertEqual(desk.number_names(), ["q", "s"])
        self.assert_raises_just(NameInUse, desk.remove_number, "s")
        desk.drop("c")
        desk.remove_number("s")
        desk.drop("q")
        self.assert_raises_just(NameInUse, desk.remove_number, "q")
        desk.drop("n")
        desk.remove_number("q")
        self.assertEqual(look(desk), ({}, {}))


class UndoTest(DeskCase):
    """Point 62."""

    def test_each_change_is_taken_back_and_made_again(self):
        desk = filled()
        for change, arguments in [
            (desk.set_number, ("new", SEVEN)), (desk.set_number, ("q", SEVEN)), (desk.set_number, ("q", FIVE)),
            (desk.make, ("new", "product", ["q", "r"])), (desk.make, ("q", "conjugate", ["q"])),
            (desk.ask, ("new", "norm", ["q"])), (desk.ask, ("n", "content", ["s"])), (desk.drop, ("c",)),
        ]:
            before = look(desk)
            change(*arguments)
            after = look(desk)
            self.assertIsNone(desk.undo())
            self.assertEqual(look(desk), before)
            self.assertIsNone(desk.redo())
            self.assertEqual(look(desk), after)
        before = look(desk)
        desk.remove_number("r")
        after = look(desk)
        desk.undo()
        self.assertEqual(look(desk), before)
        desk.redo()
        self.assertEqual(look(desk), after)

    def test_a_change_to_what_was_there_already_is_a_change(self):
        desk = Desk()
        desk.set_number("q", FIVE)
        desk.set_number("q", FIVE)
        desk.ask("n", "norm", ["q"])
        desk.ask("n", "norm", ["q"])
        desk.undo()
        self.assertEqual(desk.question_names(), ["n"])
        desk.undo()
        self.assertEqual(desk.question_names(), [])
        desk.undo()
        self.assertEqual(desk.number_names(), ["q"])
        desk.undo()
        self.assertEqual(desk.number_names(), [])
        self.assert_raises_just(NothingToUndo, desk.undo)

    def test_undo_and_redo_several_times_in_a_row(self):
        desk = Desk()
        seen = [look(desk)]
        for change, arguments in [
            (desk.set_number, ("q", FIVE)), (desk.set_number, ("r", THREE)), (desk.make, ("q", "product", ["q", "r"])),
            (desk.ask, ("n", "norm", ["q"])), (desk.ask, ("n", "same", ["q", "r"])), (desk.drop, ("n",)),
            (desk.remove_number, ("r",)), (desk.set_number, ("q", SEVEN)),
        ]:
            change(*arguments)
            seen.append(look(desk))
        for _ in range(3):
            for expected in seen[-2::-1]:
                desk.undo()
                self.assertEqual(look(desk), expected)
            self.assert_raises_just(NothingToUndo, desk.undo)
            self.assertEqual(look(desk), ({}, {}))
            for expected in seen[1:]:
                desk.redo()
                self.assertEqual(look(desk), expected)
            self.assert_raises_just(NothingToRedo, desk.redo)
            self.assertEqual(look(desk), seen[-1])

    def test_undo_and_redo_by_turns(self):
        desk = filled()
        states = history(desk)[2]
        desk.undo()
        desk.undo()
        desk.redo()
        self.assertEqual(look(desk), states[1])
        desk.undo()
        desk.undo()
        self.assertEqual(look(desk), states[3])
        desk.redo()
        desk.redo()
        desk.redo()
        self.assertEqual(look(desk), states[0])
        self.assert_raises_just(NothingToRedo, desk.redo)

    def test_a_change_ends_what_can_be_made_again(self):
        changes = {
            "set_number": ("q", FIVE), "make": ("q", "conjugate", ["q"]), "remove_number": ("free",),
            "ask": ("n", "norm", ["q"]), "drop": ("n",),
        }
        for name, arguments in changes.items():
            desk = filled()
            desk.set_number("free", SEVEN)
            desk.set_number("more", SEVEN)
            desk.set_number("most", SEVEN)
            desk.undo()
            desk.undo()
            getattr(desk, name)(*arguments)
            after = look(desk)
            self.assert_raises_just(NothingToRedo, desk.redo)
            self.assertEqual(look(desk), after)
            desk.undo()
            desk.redo()
            self.assertEqual(look(desk), after)
            self.assert_raises_just(NothingToRedo, desk.redo)

    def test_looking_is_no_change(self):
        desk = filled()
        desk.undo()
        before = history(desk)
        desk.answers()
        desk.answer("n")
        desk.number("q")
        desk.question("n")
        desk.number_names()
        desk.question_names()
        self.assertEqual(history(desk), before)
        self.assertEqual(before[:2], (6, 1))

    def test_taking_back_a_removal_of_what_was_in_use_before(self):
        desk = filled()
        desk.drop("c")
        desk.remove_number("s")
        desk.undo()
        desk.undo()
        self.assertEqual(desk.answer("c"), decide("common", [THREE, SEVEN]))
        self.assert_raises_just(NameInUse, desk.remove_number, "s")


class ChangeAllTest(DeskCase):
    """Point 62: several changes at once."""

    def test_each_is_a_change_of_its_own(self):
        desk = Desk()
        self.assertIsNone(desk.change_all([
            ("set_number", "q", FIVE), ("set_number", "r", [3, 1, 1, 1]), ("make", "p", "product", ["q", "r"]),
            ("ask", "n", "norm", ["p"]), ("ask", "m", "same", ["q", "q"]), ("drop", "m"), ("remove_number", "r"),
        ]))
        self.assertEqual(look(desk), ({"p": product(FIVE, THREE), "q": FIVE}, {"n": ("norm", ("p",))}))
        desk.undo()
        self.assertEqual(desk.number_names(), ["p", "q", "r"])
        desk.undo()
        self.assertEqual(desk.question_names(), ["m", "n"])
        desk.redo()
        self.assertEqual(desk.question_names(), ["n"])
        desk.redo()
        self.assertEqual(desk.number_names(), ["p", "q"])
        self.assertEqual(history(desk)[:2], (7, 0))

    def test_it_ends_what_can_be_made_again(self):
        desk = filled()
        desk.undo()
        desk.undo()
        desk.change_all([("set_number", "new", SEVEN)])
        self.assert_raises_just(NothingToRedo, desk.redo)
        self.assertEqual(history(desk)[:2], (5, 0))

    def test_no_change(self):
        desk = filled()
        desk.undo()
        desk.undo()
        before = history(desk)
        for nothing in ([], ()):
            self.assertIsNone(desk.change_all(nothing))
            self.assertEqual(history(desk), before)
        self.assertEqual(before[:2], (6, 2))
        desk.redo()
        desk.redo()
        self.assertEqual(look(desk), before[2][0])

    def test_one_that_is_not_possible_behind_others(self):
        possible = [
            ("set_number", "new", SEVEN), ("set_number", "q", SEVEN), ("make", "r", "product", ["q", "new"]),
            ("ask", "n", "content", ["new"]), ("drop", "c"), ("remove_number", "s"), ("ask", "new", "norm", ["new"]),
        ]
        for wrong, error in [
            (("set_number", "x", (1, 2, 3, 4)), InvalidNumber), (("set_number", "x", ZERO), InvalidQuestion),
            (("make", "x", "product", ["q", "y"]), UnknownName), (("make", "x", "times", ["q"]), InvalidQuestion),
            (("remove_number", "y"), UnknownName), (("remove_number", "q"), NameInUse), (("drop", "c"), UnknownName),
            (("ask", "x", "norm", ["s"]), UnknownName), (("ask", "x", "norms", ["q"]), InvalidQuestion),
        ]:
            for undone in range(3):
                desk = filled()
                desk.change_all([("set_number", "a", FIVE), ("set_number", "b", FIVE)])
                for _ in range(undone):
                    desk.undo()
                before = history(desk)
                self.assertEqual(before[:2], (8, undone))
                self.assert_raises_just(error, desk.change_all, [*possible, wrong])
                self.assertEqual(history(desk), before)
                self.assert_raises_just(error, desk.change_all, [*possible, wrong, ("set_number", "c", FIVE)])
                self.assertEqual(history(desk), before)
        desk = filled()
        desk.change_all(possible)
        self.assertEqual((desk.number_names(), desk.question_names()), (["new", "q", "r"], ["n", "new", "q"]))

    def test_the_error_tells_the_name(self):
        desk = filled()
        changes = [("set_number", "a", FIVE), ("remove_number", "q")]
        self.assertEqual(self.assert_raises_just(NameInUse, desk.change_all, changes).name, "q")
        self.assert_unknown("b", desk.change_all, [("set_number", "a", FIVE), ("drop", "b")])
        self.assert_unknown("a", desk.number, "a")

    def test_undo_behind_one_that_was_not_possible(self):
        desk = filled()
        self.assert_raises_just(UnknownName, desk.change_all, [("drop", "n"), ("drop", "q"), ("drop", "x")])
        desk.undo()
        self.assertEqual(desk.question_names(), ["c", "n"])
        self.assert_raises_just(UnknownName, desk.change_all, [("drop", "n"), ("drop", "c"), ("drop", "x")])
        desk.redo()
        self.assertEqual(desk.question_names(), ["c", "n", "q"])
        self.assert_raises_just(NothingToRedo, desk.redo)

    def test_a_later_change_sees_the_earlier_ones(self):
        desk = filled()
        desk.change_all([("set_number", "q", THREE), ("make", "q", "product", ["q", "q"]), ("drop", "q"), ("drop", "n"),
                         ("remove_number", "q")])
        self.assertEqual(desk.number_names(), ["r", "s"])
        desk.undo()
        self.assertEqual(desk.number("q"), product(THREE, THREE))


class AnswersTest(DeskCase):
    """Points 63 and 64."""

    def counts(self, desk):
        return (desk.decided, desk.kept)

    def test_answers(self):
        desk = filled()
        self.assertEqual(desk.answer("n"), ("norm", 5))
        self.assertEqual(desk.answer("q"), ("yes",))
        self.assertEqual(desk.answers(), [("c", ("common", 2, 0, 0, 0)), ("n", ("norm", 5)), ("q", ("yes",))])

    def test_answers_that_are_asked_twice(self):
        desk = filled()
        self.assertEqual(self.counts(desk), (0, 0))
        desk.answer("n")
        self.assertEqual(self.counts(desk), (1, 0))
        desk.answer("n")
        desk.answer("n")
        self.assertEqual(self.counts(desk), (1, 2))
        desk.answers()
        self.assertEqual(self.counts(desk), (3, 3))
        desk.answers()
        self.assertEqual(self.counts(desk), (3, 6))

    def test_answers_under_other_names(self):
        desk = filled()
        desk.answer("n")
        desk.set_number("other", FIVE)
        desk.ask("m", "norm", ["other"])
        self.assertEqual(desk.answer("m"), ("norm", 5))
        self.assertEqual(self.counts(desk), (1, 1))
        desk.ask("m", "content", ["other"])
        desk.answer("m")
        self.assertEqual(self.counts(desk), (2, 1))

    def test_the_order_of_the_numbers_counts(self):
        desk = filled()
        desk.answer("c")
        desk.ask("d", "common", ["s", "r"])
        desk.answer("d")
        self.assertEqual(self.counts(desk), (2, 0))
        desk.ask("e", "same", ["s", "r"])
        desk.answer("e")
        self.assertEqual(self.counts(desk), (3, 0))

    def test_other_numbers_with_the_same_answer_count(self):
        desk = filled()
        desk.answer("n")
        desk.set_number("q", opposite(FIVE))
        self.assertEqual(desk.answer("n"), ("norm", 5))
        self.assertEqual(self.counts(desk), (2, 0))

    def test_answers_behind_a_number_that_was_set_again(self):
        desk = filled()
        desk.answer("n")
        desk.set_number("q", SEVEN)
        self.assertEqual(desk.answer("n"), ("norm", 7))
        self.assertEqual(self.counts(desk), (2, 0))
        desk.set_number("q", list(FIVE))
        self.assertEqual(desk.answer("n"), ("norm", 5))
        self.assertEqual(self.counts(desk), (2, 1))

    def test_answers_behind_undo(self):
        desk = filled()
        desk.answer("n")
        desk.set_number("q", SEVEN)
        desk.answer("n")
        desk.undo()
        self.assertEqual(desk.answer("n"), ("norm", 5))
        self.assertEqual(self.counts(desk), (2, 1))
        desk.redo()
        self.assertEqual(desk.answer("n"), ("norm", 7))
        self.assertEqual(self.counts(desk), (2, 2))
        for _ in range(7):
            desk.undo()
        self.assertEqual(look(desk), ({}, {}))
        self.assertEqual(self.counts(desk), (2, 2))
        for _ in range(6):
            desk.redo()
        self.assertEqual(desk.answer("n"), ("norm", 5))
        self.assertEqual(self.counts(desk), (2, 3))

    def test_answers_behind_changes_that_did_not_take_place(self):
        desk = filled()
        desk.answer("n")
        with self.assertRaises(UnknownName):
            desk.change_all([("set_number", "q", SEVEN), ("drop", "x")])
        self.assertEqual(desk.answer("n"), ("norm", 5))
        self.assertEqual(self.counts(desk), (1, 1))

    def test_questions_that_are_not_there_count_for_nothing(self):
        desk = filled()
        self.assert_unknown("x", desk.answer, "x")
        self.assert_unknown("r", desk.answer, "r")
        self.assertEqual(self.counts(desk), (0, 0))

    def test_changes_count_for_nothing(self):
        desk = filled()
        desk.make("p", "product", ["q", "r"])
        desk.undo()
        desk.change_all([("drop", "n")])
        self.assertEqual(self.counts(desk), (0, 0))

    def test_decide_counts_for_nothing(self):
        desk = filled()
        decide("norm", [FIVE])
        desk.answer("n")
        self.assertEqual(self.counts(desk), (1, 0))

    def test_great_and_endless(self):
        desk = Desk()
        desk.set_number("q", (2 * 10 ** 6, 2, 0, 0))
        desk.set_number("r", (2 * 10 ** 6, 0, 0, 0))
        desk.ask("p", "primes", ["q"])
        desk.ask("o", "order", ["q"])
        desk.ask("pr", "primes", ["r"])
        desk.ask("or", "order", ["r"])
        self.assertEqual(dict(desk.answers()), {
            "p": ("great",), "o": ("endless",), "pr": ("primes",) + (2,) * 12 + (5,) * 12, "or": ("order", 1),
        })


if __name__ == "__main__":
    unittest.main()
