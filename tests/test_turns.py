"""Points 43 to 48: the turns that numbers make."""

import unittest
from fractions import Fraction
from itertools import combinations, permutations
from math import gcd

from samples import NO_NUMBERS, ONE, ZERO, great_numbers, product_by_rules, sample_numbers, small_numbers

from turnprimes.errors import InvalidNumber, InvalidQuestion, InvalidTurn
from turnprimes.numbers import conjugate, is_primitive, norm, opposite, primitive_part, product, times, units
from turnprimes.turns import (
    are_one_turn, axis_of, check_turn, composed, inverse, number_of_turn, order_of, turn_of, turned,
)

NO_TURN = (1, ((1, 0, 0), (0, 1, 0), (0, 0, 1)))
EXAMPLE = (5, ((5, 0, 0), (0, 3, -4), (0, 4, 3)))
POINT = ((1, 1), (1, 2), (0, 1))

NO_TURNS = [
    # No size and three rows of three integers.
    None, True, 1, -5, "turn", b"turn", {}, {1: 2}, (), [], (1,), (5, None), (None, None), ("1", NO_TURN[1]),
    (1, 1), (1, ()), NO_TURN[1], NO_TURN + (1,), [1, *NO_TURN[1]], (1, ("100", "010", "001")), (NO_TURN[1], 1),
    (1, ((1, 0, 0), (0, 1, 0))), (1, ((1, 0, 0), (0, 1, 0), (0, 0, 1), (0, 0, 0))), (1, ((1, 0), (0, 1))),
    (1, ((1, 0, 0), (0, 1, 0), (0, 1))), (1, ((1, 0, 0, 0), (0, 1, 0, 0), (0, 0, 1, 0))), (1, (1, 0, 0)),
    (1, ((1, 0, 0), (0, 1, 0), (0, 0, 1, 0))), (1, ((1,), (1,), (1,))), (1, (1, 0, 0, 0, 1, 0, 0, 0, 1)),
    (1, {0: (1, 0, 0), 1: (0, 1, 0), 2: (0, 0, 1)}), (1, ((1, 0, 0), (0, 1, 0), None)), ((1,), NO_TURN[1]),
    # No integers.
    (1, ((1, 0, 0), (0, 1, 0), (0, 0, "1"))), (1, ((1, 0, 0), (0, 1, 0), (0, 0, None))), (1.0, NO_TURN[1]),
    (1, ((1, 0, 0), (0, 1.0, 0), (0, 0, 1))), (1, ((1, 0, 0), (0, 1, 0), (0, 0, (1,)))),
    (True, NO_TURN[1]), (1, ((True, 0, 0), (0, 1, 0), (0, 0, 1))), (1, ((1, 0, 0), (0, 1, 0), (0, 0, True))),
    (1, ((1, 0, False), (0, 1, 0), (0, 0, 1))), [True, [[1, 0, 0], [0, 1, 0], [0, 0, 1]]],
    # A size of 0 or below.
    (0, ((0, 0, 0), (0, 0, 0), (0, 0, 0))), (0, NO_TURN[1]), (-1, NO_TURN[1]), (False, NO_TURN[1]),
    (-1, ((-1, 0, 0), (0, -1, 0), (0, 0, -1))), (-5, ((-5, 0, 0), (0, -3, 4), (0, -4, -3))),
    # Not in lowest terms.
    (2, ((2, 0, 0), (0, 2, 0), (0, 0, 2))), (10, ((10, 0, 0), (0, 6, -8), (0, 8, 6))),
    (7 * 10 ** 40, ((7 * 10 ** 40, 0, 0), (0, 7 * 10 ** 40, 0), (0, 0, 7 * 10 ** 40))),
    # Rows of another length.
    (2, ((1, 0, 0), (0, 2, 0), (0, 0, 4))), (2, NO_TURN[1]), (1, ((1, 0, 0), (0, 1, 0), (0, 0, 2))),
    (5, ((5, 0, 0), (0, 3, -4), (0, 4, 2))), (3, EXAMPLE[1]), (1, ((1, 1, 0), (0, 1, 0), (0, 0, 1))),
    (1, ((0, 0, 0), (0, 0, 0), (0, 0, 0))), (6, ((4, 0, 0), (0, 6, 0), (0, 0, 9))),
    # Rows that are not at right angles.
    (5, ((5, 0, 0), (0, 3, -4), (0, 3, 4))), (5, ((5, 0, 0), (0, 3, 4), (0, 4, 3))), (1, ((1, 0, 0),) * 3),
    (5, ((3, 4, 0), (0, 3, 4), (4, 0, 3))), (1, ((1, 0, 0), (1, 0, 0), (0, 0, 1))),
    # A determinant with the other sign.
    (1, ((1, 0, 0), (0, 1, 0), (0, 0, -1))), (1, ((0, 1, 0), (1, 0, 0), (0, 0, 1))),
    (1, ((-1, 0, 0), (0, -1, 0), (0, 0, -1))), (5, ((5, 0, 0), (0, 3, -4), (0, -4, -3))),
]

# Points of another number of parts or with parts that are no fractions.
NO_POINTS = [
    (), ((1, 1),), ((1, 1), (1, 1)), ((1, 1),) * 4, [[1, 1], [1, 1]], (1, 2, 3), ((1, 1), (1, 1), 1), None, 5, "abc",
    ((1, 1), (1, 1), (1,)), ((1, 1), (1, 1), (1, 1, 1)), ((1, 1), (1, 1), ()), ((1, 1), (1, 1), None),
    ((1, 0), (1, 1), (1, 1)), ((1, 1), (0, 0), (1, 1)), ((1, 1), (1, 1), (0, -1)), ((1, -2), (1, 1), (1, 1)),
    ((1, 1), (-1, -2), (1, 1)), [[1, 1], [1, 1], [1, 0]], ((1, 1), (1, 1), ("1", 1)), ((1, 1), (1, 1), (1, "1")),
    ((1, 1), (1, 1), "12"), {0: (1, 1), 1: (1, 1), 2: (1, 1)}, ((1, 1), (1, 1), (True, 1)), ((1, 1), (1, True), (1, 1)),
]

OF_ONE = {
    "check_turn": check_turn,
    "number_of_turn": number_of_turn,
    "composed first": lambda turn: composed(turn, EXAMPLE),
    "composed second": lambda turn: composed(EXAMPLE, turn),
    "inverse": inverse,
    "order_of": order_of,
    "axis_of": axis_of,
    "turned": lambda turn: turned(turn, POINT),
}


def samples():
    """Numbers other than 0 of all kinds."""
    return [number for number in sample_numbers() if number != ZERO]


def led_by_rules(number, point):
    """Where point 44 says that the number leads a point, by products of numbers and fractions."""
    doubled = product_by_rules(product_by_rules(number, (0, *[2 * part for part in point])), conjugate(number))
    assert doubled[0] == 0
    return [Fraction(part, 2 * norm(number)) for part in doubled[1:]]


def rows_as_fractions(turn):
    size, rows = turn
    return [[Fraction(part, size) for part in row] for row in rows]


def as_lists(turn):
    return [turn[0], [list(row) for row in turn[1]]]


def as_fractions(point):
    return [Fraction(*part) for part in point]


def order_by_repeating(turn):
    """Any order that there is is at most 6; a second round makes sure of it."""
    repeated = turn
    for times_done in range(1, 13):
        if repeated == NO_TURN:
            return times_done
        repeated = composed(repeated, turn)
    return None


class TurnsTest(unittest.TestCase):
    """Points 43 and 44."""

    def test_examples(self):
        self.assertEqual(turn_of((4, 2, 0, 0)), EXAMPLE)
        self.assertEqual(turn_of(ONE), NO_TURN)
        self.assertEqual(turn_of((0, 2, 0, 0)), (1, ((1, 0, 0), (0, -1, 0), (0, 0, -1))))
        self.assertEqual(turn_of((0, 0, 2, 0)), (1, ((-1, 0, 0), (0, 1, 0), (0, 0, -1))))
        self.assertEqual(turn_of((0, 0, 0, 2)), (1, ((-1, 0, 0), (0, -1, 0), (0, 0, 1))))
        self.assertEqual(turn_of((1, 1, 1, 1)), (1, ((0, 0, 1), (1, 0, 0), (0, 1, 0))))
        self.assertEqual(turn_of((2, 0, 0, 2)), (1, ((0, -1, 0), (1, 0, 0), (0, 0, 1))))

    def test_turns_lead_points_as_the_rules_say(self):
        for number in samples():
            rows = rows_as_fractions(turn_of(number))
            columns = [led_by_rules(number, point) for point in [(1, 0, 0), (0, 1, 0), (0, 0, 1)]]
            self.assertEqual(rows, [list(row) for row in zip(*columns)])

    def test_turns_are_in_lowest_terms_and_keep_distances_and_sides(self):
        for number in samples():
            size, rows = turn_of(number)
            self.assertGreater(size, 0)
            self.assertEqual(gcd(size, *[part for row in rows for part in row]), 1)
            for one, other in combinations(range(3), 2):
                self.assertEqual(sum(x * y for x, y in zip(rows[one], rows[other])), 0)
            for row in rows:
                self.assertEqual(sum(x * x for x in row), size ** 2)
            (a, b, c), (d, e, f), (g, h, i) = rows
            self.assertEqual(a * (e * i - f * h) - b * (d * i - f * g) + c * (d * h - e * g), size ** 3)

    def test_turns_are_tuples(self):
        for turn in [turn_of([4, 2, 0, 0]), composed(as_lists(EXAMPLE), as_lists(EXAMPLE)), inverse(as_lists(EXAMPLE))]:
            self.assertIs(type(turn), tuple)
            self.assertEqual([type(part) for part in turn], [int, tuple])
            self.assertEqual([type(row) for row in turn[1]], [tuple] * 3)

    def test_a_number_times_an_integer_and_its_opposite_make_the_same_turn(self):
        for number in samples():
            for factor in (2, 3, -1, -6, 10 ** 15):
                self.assertEqual(turn_of(times(number, factor)), turn_of(number))
                self.assertIs(are_one_turn(number, times(number, factor)), True)
            self.assertEqual(turn_of(opposite(number)), turn_of(number))

    def test_turns_of_primitive_numbers_differ_but_for_the_sign(self):
        primitive = [number for number in small_numbers(3) if any(number) and is_primitive(number)]
        turns = {}
        for number in primitive:
            turns.setdefault(turn_of(number), []).append(number)
        self.assertEqual(2 * len(turns), len(primitive))
        for one, other in turns.values():
            self.assertEqual(one, opposite(other))

    def test_0_and_what_is_no_number(self):
        for zero in (ZERO, [0, 0, 0, 0]):
            with self.assertRaises(InvalidQuestion):
                turn_of(zero)
        for wrong in NO_NUMBERS:
            for passed in (wrong, list(wrong)):
                with self.subTest(wrong), self.assertRaises(InvalidNumber):
                    turn_of(passed)


class OneTurnTest(unittest.TestCase):
    """Point 44, and point 55 for are_one_turn."""

    def test_one_turn_exactly_for_multiples(self):
        numbers = [number for number in small_numbers(3) if any(number)][::3]
        for one in numbers[::4]:
            for other in numbers:
                crosses = [one[a] * other[b] - one[b] * other[a] for a, b in combinations(range(4), 2)]
                self.assertIs(are_one_turn(one, other), not any(crosses))

    def test_great_numbers(self):
        one, other = great_numbers(60, 2)
        self.assertIs(are_one_turn(times(one, 3), times(one, -5)), True)
        self.assertIs(are_one_turn(list(one), list(opposite(one))), True)
        self.assertIs(are_one_turn(one, other), False)
        self.assertIs(are_one_turn(one, conjugate(one)), False)

    def test_errors_of_the_first_number_come_first(self):
        for wrong in NO_NUMBERS:
            cases = [
                ((wrong, ONE), InvalidNumber), ((wrong, ZERO), InvalidNumber), ((wrong, wrong), InvalidNumber),
                ((ONE, wrong), InvalidNumber), ((ZERO, wrong), InvalidQuestion),
            ]
            for arguments, error in cases:
                with self.subTest(arguments), self.assertRaises(error):
                    are_one_turn(*arguments)
        for arguments in [(ZERO, ONE), (ONE, ZERO), (ZERO, ZERO), ([0, 0, 0, 0], [2, 0, 0, 0])]:
            with self.subTest(arguments), self.assertRaises(InvalidQuestion):
                are_one_turn(*arguments)


class CheckTest(unittest.TestCase):
    """Point 43, what is a turn and what is none."""

    def test_turns(self):
        for number in samples():
            turn = turn_of(number)
            self.assertIsNone(check_turn(turn))
            self.assertIsNone(check_turn(as_lists(turn)))
            self.assertIsNone(check_turn((turn[0], as_lists(turn)[1])))
            self.assertIsNone(check_turn([turn[0], turn[1]]))

    def test_tables_of_size_1(self):
        found = 0
        for columns in permutations(range(3)):
            for signs in range(8):
                rows = [[0, 0, 0], [0, 0, 0], [0, 0, 0]]
                for at, column in enumerate(columns):
                    rows[at][column] = -1 if signs >> at & 1 else 1
                (a, b, c), (d, e, f), (g, h, i) = rows
                if a * (e * i - f * h) - b * (d * i - f * g) + c * (d * h - e * g) == 1:
                    self.assertIsNone(check_turn((1, rows)))
                    found += 1
                else:
                    with self.assertRaises(InvalidTurn):
                        check_turn((1, rows))
        self.assertEqual(found, 24)

    def test_what_is_no_turn(self):
        for wrong in NO_TURNS:
            for name, action in OF_ONE.items():
                with self.subTest(name, wrong=wrong), self.assertRaises(InvalidTurn) as caught:
                    action(wrong)
                self.assertIs(type(caught.exception), InvalidTurn)

    def test_what_is_no_turn_in_lists(self):
        for wrong in [(2, [[2, 0, 0], [0, 2, 0], [0, 0, 2]]), [1, [[1, 0, 0], [0, 1, 0], [0, 0, -1]]], [1, [[1, 0, 0]]]]:
            for name, action in OF_ONE.items():
                with self.subTest(name, wrong=wrong), self.assertRaises(InvalidTurn):
                    action(wrong)

    def test_great_turns_with_one_integer_changed(self):
        size, rows = turn_of(great_numbers(40, 1)[0])
        for at in range(3):
            for place in range(3):
                changed = [list(row) for row in rows]
                changed[at][place] += 1
                with self.assertRaises(InvalidTurn):
                    check_turn((size, changed))
        with self.assertRaises(InvalidTurn):
            check_turn((size + 1, rows))


class NumberOfTurnTest(unittest.TestCase):
    """Point 44, the way back."""

    def test_examples(self):
        self.assertEqual(number_of_turn(EXAMPLE), (4, 2, 0, 0))
        self.assertEqual(number_of_turn(NO_TURN), ONE)
        self.assertEqual(number_of_turn((1, ((0, 0, 1), (1, 0, 0), (0, 1, 0)))), (1, 1, 1, 1))

    def test_numbers_of_turns(self):
        for number in samples():
            part = primitive_part(number)
            greater = max(part, opposite(part))
            self.assertEqual(number_of_turn(turn_of(number)), greater)
            self.assertEqual(number_of_turn(as_lists(turn_of(number))), greater)

    def test_numbers_with_parts_that_are_0(self):
        for number in small_numbers(4):
            if not any(number) or not is_primitive(number):
                continue
            found = number_of_turn(turn_of(number))
            self.assertIs(type(found), tuple)
            self.assertEqual(found, max(number, opposite(number)))
        for number in [(0, 0, 0, 2), (0, 0, 2, -4), (0, 2, -6, 0), (0, 0, -2, 0), (0, -2, 0, 0)]:
            greater = max(number, opposite(number))
            self.assertEqual(number_of_turn(turn_of(number)), greater)
            great = tuple([part * 10 ** 50 for part in greater[:3]] + [greater[3] * 10 ** 50 + 2])
            self.assertEqual(number_of_turn(turn_of(great)), primitive_part(great))


class ComposedTest(unittest.TestCase):
    """Point 45, turns back, and several turns."""

    def test_example(self):
        quarter = turn_of((2, 0, 0, 2))
        half = turn_of((0, 2, 0, 0))
        # First (1, 0, 0) to (0, 1, 0), and this then to (0, -1, 0).
        self.assertEqual(turned(composed(quarter, half), ((1, 1), (0, 1), (0, 1))), ((0, 1), (-1, 1), (0, 1)))
        self.assertEqual(turned(composed(half, quarter), ((1, 1), (0, 1), (0, 1))), ((0, 1), (1, 1), (0, 1)))

    def test_products_make_the_turn_of_the_second_factor_and_then_that_of_the_first(self):
        numbers = samples()
        for one, other in zip(numbers, numbers[5:]):
            self.assertEqual(composed(turn_of(other), turn_of(one)), turn_of(product(one, other)))
            self.assertEqual(composed(as_lists(turn_of(other)), as_lists(turn_of(one))), turn_of(product(one, other)))

    def test_turns_back(self):
        self.assertEqual(inverse(EXAMPLE), (5, ((5, 0, 0), (0, 3, 4), (0, -4, 3))))
        for number in samples():
            turn = turn_of(number)
            self.assertEqual(inverse(turn), turn_of(conjugate(number)))
            self.assertEqual(inverse(as_lists(turn)), inverse(turn))
            self.assertEqual(composed(turn, inverse(turn)), NO_TURN)
            self.assertEqual(composed(inverse(turn), turn), NO_TURN)

    def test_arguments_stay(self):
        first, second = as_lists(EXAMPLE), as_lists(turn_of((1, 1, 1, 3)))
        composed(first, second)
        inverse(first)
        number_of_turn(first)
        self.assertEqual(first, as_lists(EXAMPLE))
        self.assertEqual(second, as_lists(turn_of((1, 1, 1, 3))))


class OrdersTest(unittest.TestCase):
    """Point 46."""

    def test_each_order_and_none(self):
        cases = {
            ONE: 1, (0, 2, 0, 0): 2, (0, 2, 4, -2): 2, (1, 1, 1, 1): 3, (1, -1, 1, -1): 3, (2, 2, 0, 0): 4,
            (6, 2, 2, 2): 6, (3, 1, 1, 1): 6, (4, 2, 0, 0): None, (1, 1, 1, 3): None, (2, 2, 2, 0): None,
            (6, 6, 6, 6): 3, (-10, 0, 0, 0): 1, (-2, 0, 2, 0): 4, (0, 10 ** 60, 2, 0): 2,
        }
        for number, order in cases.items():
            with self.subTest(number):
                self.assertEqual(order_of(turn_of(number)), order)
                self.assertEqual(order_of(as_lists(turn_of(number))), order)

    def test_orders_by_repeating(self):
        orders = {}
        for number in small_numbers(4):
            if any(number):
                turn = turn_of(number)
                self.assertEqual(order_of(turn), order_by_repeating(turn))
                orders[order_of(turn)] = True
        self.assertEqual(set(orders), {None, 1, 2, 3, 4, 6})

    def test_turns_of_units(self):
        self.assertEqual(sorted(order_of(turn_of(unit)) for unit in units()), [1] * 2 + [2] * 6 + [3] * 16)

    def test_great_numbers(self):
        # The order of a turn stays if another turn stands before it and its way back behind it.
        for number in great_numbers(60, 4):
            self.assertIsNone(order_of(turn_of(number)))
            for part, order in [(ONE, 1), ((0, 0, 2, 0), 2), ((1, 1, -1, 1), 3), ((2, 0, 2, 0), 4), ((3, 1, 1, 1), 6)]:
                between = product(product(number, part), conjugate(number))
                self.assertEqual(order_of(turn_of(between)), order)


class AxesTest(unittest.TestCase):
    """Point 47."""

    def test_examples(self):
        self.assertEqual(axis_of(EXAMPLE), (1, 0, 0))
        self.assertEqual(axis_of(turn_of((1, 1, 1, 1))), (1, 1, 1))
        self.assertEqual(axis_of(turn_of((4, -2, 0, 0))), (1, 0, 0))
        self.assertEqual(axis_of(turn_of((2, 0, -4, 6))), (0, 2, -3))
        self.assertEqual(axis_of(turn_of((2, 0, 0, -8))), (0, 0, 1))
        self.assertEqual(axis_of(turn_of((1, -3, 9, -15))), (1, -3, 5))
        self.assertEqual(axis_of(as_lists(turn_of((-1, 3, 9, -15)))), (1, 3, -5))

    def test_the_turn_that_leads_each_point_to_itself_has_none(self):
        self.assertIsNone(axis_of(NO_TURN))
        self.assertIsNone(axis_of(as_lists(NO_TURN)))
        self.assertIsNone(axis_of(turn_of((10 ** 30, 0, 0, 0))))

    def test_points_along_the_axis_stay(self):
        for number in samples() + great_numbers(30, 4):
            turn = turn_of(number)
            axis = axis_of(turn)
            if turn == NO_TURN:
                self.assertIsNone(axis)
                continue
            self.assertIs(type(axis), tuple)
            self.assertEqual(gcd(*axis), 1)
            self.assertGreater(axis, (0, 0, 0))
            self.assertEqual(turned(turn, [(part, 1) for part in axis]), tuple([(part, 1) for part in axis]))


class TurnedTest(unittest.TestCase):
    """Point 48."""

    def test_examples(self):
        self.assertEqual(turned(EXAMPLE, POINT), ((1, 1), (3, 10), (2, 5)))
        self.assertEqual(turned(NO_TURN, ((2, 4), (-6, 4), (0, 7))), ((1, 2), (-3, 2), (0, 1)))
        self.assertEqual(turned(NO_TURN, ((0, 10 ** 30), (10, 5), (-3, 9))), ((0, 1), (2, 1), (-1, 3)))

    def test_points_as_the_rules_lead_them(self):
        points = [((1, 2), (-2, 3), (5, 7)), ((6, 4), (0, 9), (10 ** 20, 3)), ((0, 1), (0, 5), (0, 2))]
        for number in samples():
            for point in points:
                found = turned(turn_of(number), point)
                below = point[0][1] * point[1][1] * point[2][1]
                whole = [part * (below // divisor) for part, divisor in point]
                expected = [part / below for part in led_by_rules(number, whole)]
                self.assertEqual(as_fractions(found), expected)
                self.assertEqual(found, tuple([(part.numerator, part.denominator) for part in expected]))

    def test_tuples_are_returned(self):
        found = turned(as_lists(EXAMPLE), [[1, 1], [1, 2], [0, 1]])
        self.assertEqual(found, ((1, 1), (3, 10), (2, 5)))
        self.assertEqual([type(found)] + [type(part) for part in found], [tuple] * 4)
        self.assertEqual(turned(EXAMPLE, ([1, 1], (1, 2), [0, 1])), found)
        self.assertEqual(turned(EXAMPLE, [(1, 1), [1, 2], (0, 1)]), found)

    def test_points_that_are_passed_stay(self):
        point = [[2, 4], [0, 3], [5, 5]]
        turned(EXAMPLE, point)
        self.assertEqual(point, [[2, 4], [0, 3], [5, 5]])

    def test_other_points(self):
        for wrong in NO_POINTS:
            with self.subTest(wrong), self.assertRaises(InvalidQuestion) as caught:
                turned(EXAMPLE, wrong)
            self.assertIs(type(caught.exception), InvalidQuestion)

    def test_what_is_no_turn_comes_ahead_of_the_point(self):
        for wrong in NO_TURNS[::5]:
            with self.subTest(wrong), self.assertRaises(InvalidTurn):
                turned(wrong, ((1, 0), (1, 1), (1, 1)))


if __name__ == "__main__":
    unittest.main()
