"""Points 49 to 56: the whole points that turns lead to whole points."""

import unittest
from itertools import permutations, product as every
from math import lcm, prod

from samples import great_numbers, small_numbers

from turnprimes.errors import InvalidQuestion, InvalidTurn
from turnprimes.lattices import common_base, common_index, is_common, parts_in_base
from turnprimes.numbers import is_primitive, norm, opposite, product_of, times
from turnprimes.turns import composed, inverse, turn_of, turned

NO_TURN = (1, ((1, 0, 0), (0, 1, 0), (0, 0, 1)))
EXAMPLE = (5, ((5, 0, 0), (0, 3, -4), (0, 4, 3)))
WHOLE = ((1, 0, 0), (0, 1, 0), (0, 0, 1))

NO_TURNS = [
    None, 5, "turn", (), (5, ((5, 0, 0), (0, 3, -4))), (True, NO_TURN[1]), (10, ((10, 0, 0), (0, 6, -8), (0, 8, 6))),
    (5, ((5, 0, 0), (0, 3, -4), (0, -4, -3))), (0, ((0, 0, 0), (0, 0, 0), (0, 0, 0))), (-1, ((-1, 0, 0),) * 3),
]
NO_POINTS = [
    (), (1,), (1, 2), (1, 2, 3, 4), [1, 2], [0, 0, 0, 0], None, 5, "123", ("1", 2, 3), (1, None, 3), (1, 2, 3.0),
    ((1, 1), (2, 1), (3, 1)), (1, 2, (3,)), {0: 1, 1: 2, 2: 3}, (True, 0, 0), (0, 0, False),
]
FUNCTIONS = {
    "common_base": common_base,
    "common_index": common_index,
    "is_common": lambda turns: is_common(turns, (0, 0, 0)),
    "parts_in_base": lambda turns: parts_in_base(turns, (0, 0, 0)),
}


def as_lists(turn):
    return [turn[0], [list(row) for row in turn[1]]]


def leads_to_whole_point(turn, point):
    found = turned(turn, [(part, 1) for part in point])
    return all(divisor == 1 for _, divisor in found)


def are_common(turns, point):
    return all(leads_to_whole_point(turn, point) for turn in turns)


def base_by_search(turns):
    """The base of point 51, by trying all points."""
    reach = lcm(*[size for size, _ in turns])
    f = next(z for z in range(1, reach + 1) if are_common(turns, (0, 0, z)))
    rest = every(range(1, reach + 1), range(f))
    d, e = next((y, z) for y, z in rest if are_common(turns, (0, y, z)))
    rest = every(range(1, reach + 1), range(d), range(f))
    first = next(point for point in rest if are_common(turns, point))
    return (first, (0, d, e), (0, 0, f))


def some_turns():
    """Lists of one to six turns of small sizes."""
    few = [
        [(4, 2, 0, 0)], [(2, 2, 2, 0)], [(1, 1, 1, 3)], [(3, 1, 1, 5)], [(0, 2, 4, 4)], [(6, 4, 2, 0)], [(2, 2, 0, 0)],
        [(2, 4, 6, 0)], [(8, 2, 0, 0)], [(4, 2, 0, 0), (4, 0, 2, 0)], [(2, 2, 2, 0), (2, 2, 0, 2)],
        [(4, 2, 0, 0), (2, 2, 2, 0)], [(2, 4, 2, 4), (4, 0, 0, 2)], [(0, 2, 4, 4), (2, 2, 2, 0)],
        [(0, 2, 4, 4), (3, 1, 1, 5)], [(4, 2, 0, 0), (4, -2, 0, 0), (4, 0, 0, 2)], [(1, 1, 1, 1), (1, 1, 1, 3)],
        [(2, 2, 2, 0), (2, 2, 0, 2), (2, 0, 2, 2), (0, 2, 2, 2)], [(0, 2, 4, 4), (0, 4, 4, 2), (0, 4, 2, 4), (4, 2, 4, 0)],
        [(4, 2, 0, 0), (4, 0, 2, 0), (4, 0, 0, 2), (0, 4, 2, 0), (0, 4, 0, 2), (0, 0, 4, 2)],
        [(2, 2, 2, 0), (4, 2, 0, 0), (2, -2, 2, 0), (2, 2, 2, 2), (2, 0, 0, 0)], [(6, 2, 2, 0), (2, 6, 0, -2)],
    ]
    return [[turn_of(number) for number in numbers] for numbers in few]


class BasesTest(unittest.TestCase):
    """Points 49 and 51."""

    def test_examples(self):
        turns = [turn_of((4, 2, 0, 0))]
        self.assertEqual(common_base(turns), ((1, 0, 0), (0, 1, 2), (0, 0, 5)))
        self.assertEqual(common_index(turns), 5)
        self.assertEqual(common_base([NO_TURN]), WHOLE)
        self.assertEqual(common_base([turn_of((1, 1, 1, 1)), turn_of((2, 2, 0, 0))]), WHOLE)
        self.assertEqual(common_index([NO_TURN]), 1)

    def test_bases_by_search(self):
        for turns in some_turns():
            self.assertEqual(common_base(turns), base_by_search(turns))

    def test_bases_of_single_turns_by_search(self):
        for number in small_numbers(5)[::37]:
            if any(number) and norm(number) < 25:
                turns = [turn_of(number)]
                self.assertEqual(common_base(turns), base_by_search(turns))

    def test_bases_are_tuples_of_common_points_of_the_form(self):
        for turns in some_turns() + [[turn_of(number) for number in great_numbers(15, 6)]]:
            base = common_base(turns)
            self.assertEqual([type(base)] + [type(point) for point in base], [tuple] * 4)
            (a, b, c), (zero, d, e), (also, again, f) = base
            self.assertEqual((zero, also, again), (0, 0, 0))
            self.assertTrue(a > 0 and 0 <= b < d and 0 <= c < f and 0 <= e < f)
            self.assertTrue(all(is_common(turns, point) for point in base))
            self.assertEqual(common_index(turns), a * d * f)

    def test_turns_may_be_lists_and_stay(self):
        turns = [turn_of((4, 2, 0, 0)), turn_of((4, 0, 2, 0))]
        passed = [as_lists(turn) for turn in turns]
        self.assertEqual(common_base(passed), common_base(turns))
        self.assertEqual(common_index(passed), common_index(turns))
        self.assertIs(is_common(passed, [25, 0, 0]), True)
        self.assertEqual(parts_in_base(passed, [0, 0, 25]), parts_in_base(turns, (0, 0, 25)))
        self.assertEqual(passed, [as_lists(turn) for turn in turns])
        self.assertEqual(common_base(tuple(turns)), common_base(turns))


class IndexTest(unittest.TestCase):
    """Points 49 and 50."""

    def test_the_index_counts_whole_points_evenly(self):
        for turns in some_turns():
            reach = lcm(*[size for size, _ in turns])
            if reach > 20:
                continue
            common = [point for point in every(range(reach), repeat=3) if are_common(turns, point)]
            self.assertEqual(common_index(turns) * len(common), reach ** 3)

    def test_the_index_of_one_turn_is_its_size(self):
        for number in small_numbers(4)[::5] + great_numbers(2, 12) + great_numbers(30, 6):
            if any(number):
                turn = turn_of(number)
                self.assertEqual(common_index([turn]), turn[0])

    def test_the_size_is_the_greatest_odd_integer_that_divides_the_norm(self):
        for number in small_numbers(4) + great_numbers(20, 6):
            if not any(number) or not is_primitive(number):
                continue
            odd = norm(number)
            while odd % 2 == 0:
                odd //= 2
            self.assertEqual(common_index([turn_of(number)]), odd)
            self.assertEqual(common_index([turn_of(times(number, -6))]), odd)
            self.assertEqual(turn_of(number)[0], odd)

    def test_turns_of_other_sizes(self):
        five, three = turn_of((4, 2, 0, 0)), turn_of((2, 2, 2, 0))
        self.assertEqual(common_index([five, three]), 15)
        self.assertEqual(common_index([five, turn_of((4, 0, 2, 0))]), 25)
        self.assertEqual(common_index([five, composed(five, five)]), 25)
        self.assertEqual(common_index([five, NO_TURN]), 5)


class PointsTest(unittest.TestCase):
    """Points 49 and 52."""

    def test_examples(self):
        self.assertIs(is_common([EXAMPLE], (3, 1, -3)), True)
        self.assertEqual(parts_in_base([EXAMPLE], (3, 1, -3)), (3, 1, -1))
        self.assertIs(is_common([EXAMPLE], (3, 1, -2)), False)
        self.assertIsNone(parts_in_base([EXAMPLE], (3, 1, -2)))
        self.assertIs(is_common([EXAMPLE], [0, 0, 0]), True)
        self.assertEqual(parts_in_base([EXAMPLE], [0, 0, 0]), (0, 0, 0))

    def test_common_points_by_where_the_turns_lead_them(self):
        for turns in some_turns():
            for point in every(range(-4, 7, 2), range(-5, 6, 3), range(-6, 6, 1)):
                self.assertIs(is_common(turns, point), are_common(turns, point))

    def test_parts_in_the_base_make_the_point(self):
        for turns in some_turns():
            base = common_base(turns)
            for point in every(range(-6, 7, 3), range(-5, 6, 2), range(-6, 6, 1)):
                parts = parts_in_base(turns, point)
                if not are_common(turns, point):
                    self.assertIsNone(parts)
                    continue
                self.assertIs(type(parts), tuple)
                made = tuple([sum(many * row[at] for many, row in zip(parts, base)) for at in range(3)])
                self.assertEqual(made, point)

    def test_multiples_of_the_base_are_common_points(self):
        for turns in some_turns() + [[turn_of(number) for number in great_numbers(12, 6)]]:
            base = common_base(turns)
            for parts in [(1, 0, 0), (0, 1, 0), (0, 0, 1), (-2, 3, 5), (7, -1, 0), (10 ** 20, -10 ** 20, 1)]:
                point = [sum(many * row[at] for many, row in zip(parts, base)) for at in range(3)]
                self.assertIs(is_common(turns, point), True)
                self.assertEqual(parts_in_base(turns, point), parts)
                self.assertEqual(parts_in_base(turns, tuple(point)), parts)

    def test_sums_and_differences_of_common_points(self):
        for turns in some_turns():
            one, other, third = common_base(turns)
            self.assertIs(is_common(turns, [x + y for x, y in zip(one, third)]), True)
            self.assertIs(is_common(turns, [x - y - z for x, y, z in zip(one, other, third)]), True)

    def test_one_turn_of_several_is_enough_to_be_no_common_point(self):
        turns = [turn_of((4, 2, 0, 0)), turn_of((4, 0, 2, 0)), turn_of((4, 0, 0, 2))]
        self.assertIs(is_common(turns, (5, 5, 5)), True)
        for at in range(3):
            axis = [0, 0, 0]
            axis[at] = 1
            self.assertEqual([is_common([turn], axis) for turn in turns], [at == place for place in range(3)])
            self.assertIs(is_common(turns, axis), False)
            self.assertIsNone(parts_in_base(turns, axis))

    def test_points_that_are_passed_stay(self):
        point = [3, 1, -3]
        parts_in_base([EXAMPLE], point)
        is_common([EXAMPLE], point)
        self.assertEqual(point, [3, 1, -3])


class GreatSizesTest(unittest.TestCase):
    """Point 53: no search, so sizes may have many digits."""

    def test_one_turn(self):
        for number in great_numbers(200, 3):
            turn = turn_of(number)
            base = common_base([turn])
            self.assertGreater(turn[0], 10 ** 300)
            # Common points in this number, with the right index, make all of them.
            self.assertEqual(common_index([turn]), turn[0])
            self.assertTrue(all(leads_to_whole_point(turn, point) for point in base))

    def test_six_turns(self):
        turns = [turn_of(number) for number in great_numbers(60, 6)]
        reach = lcm(*[size for size, _ in turns])
        index = common_index(turns)
        for point in common_base(turns):
            self.assertTrue(are_common(turns, point))
        self.assertEqual(prod(size for size, _ in turns) % index, 0)
        self.assertEqual(index % reach, 0)
        self.assertEqual(parts_in_base(turns, (reach, 0, 0))[0], reach // common_base(turns)[0][0])

    def test_turns_whose_sizes_have_no_common_divisor(self):
        turns = [turn_of((10 ** 40, 0, 0, 2)), turn_of((10 ** 40 + 1, 1, 1, 1)), turn_of((4, 2, 0, 0))]
        sizes = [size for size, _ in turns]
        self.assertEqual(lcm(*sizes), prod(sizes))
        self.assertEqual(common_index(turns), prod(sizes))
        self.assertTrue(all(are_common(turns, point) for point in common_base(turns)))

    def test_a_turn_many_times(self):
        fives = [turn_of(product_of([(4, 2, 0, 0)] * many)) for many in (1, 40, 79, 80)]
        self.assertEqual(fives[-1][0], 5 ** 80)
        self.assertEqual(common_base(fives), common_base(fives[-1:]))
        self.assertEqual(common_index(fives), 5 ** 80)


class BackTest(unittest.TestCase):
    """Point 54."""

    def test_a_turn_leads_its_common_points_to_those_of_the_turn_back(self):
        for number in small_numbers(4)[::11] + great_numbers(20, 4):
            if not any(number):
                continue
            turn = turn_of(number)
            led = []
            for point in common_base([turn]):
                found = turned(turn, [(part, 1) for part in point])
                led.append([part for part, _ in found])
                self.assertEqual([divisor for _, divisor in found], [1, 1, 1])
                self.assertIs(is_common([inverse(turn)], led[-1]), True)
            (a, b, c), (d, e, f), (g, h, i) = led
            across = abs(a * (e * i - f * h) - b * (d * i - f * g) + c * (d * h - e * g))
            self.assertEqual(across, common_index([inverse(turn)]))


class OrderOfTurnsTest(unittest.TestCase):
    """Point 56."""

    def test_turns_in_another_order(self):
        for turns in some_turns():
            base = common_base(turns)
            for other in list(permutations(turns))[::7]:
                self.assertEqual(common_base(list(other)), base)
                self.assertEqual(common_index(list(other)), common_index(turns))
                self.assertEqual(parts_in_base(list(other), base[0]), (1, 0, 0))

    def test_great_turns_in_another_order(self):
        turns = [turn_of(number) for number in great_numbers(50, 5)]
        self.assertEqual(common_base(turns[::-1]), common_base(turns))
        self.assertEqual(common_base(turns[2:] + turns[:2]), common_base(turns))

    def test_one_turn_twice(self):
        for turns in some_turns():
            self.assertEqual(common_base(turns[:1] * 2), common_base(turns[:1]))
            self.assertEqual(common_index(turns[-1:] * 6), common_index(turns[-1:]))
            if len(turns) < 6:
                self.assertEqual(common_base(turns + turns[:1]), common_base(turns))


class ErrorsTest(unittest.TestCase):
    """Point 55."""

    def assert_raises_just(self, error, action, *arguments):
        with self.assertRaises(error) as caught:
            action(*arguments)
        self.assertIs(type(caught.exception), error)

    def test_what_is_no_turn(self):
        for name, action in FUNCTIONS.items():
            for wrong in NO_TURNS:
                for turns in [[wrong], [wrong, EXAMPLE], [EXAMPLE, wrong], [EXAMPLE] * 5 + [wrong]]:
                    with self.subTest(name, turns=turns):
                        self.assert_raises_just(InvalidTurn, action, turns)

    def test_no_turns_and_seven_turns(self):
        for name, action in FUNCTIONS.items():
            for turns in [[], (), [EXAMPLE] * 7, [NO_TURN] * 7, [as_lists(EXAMPLE)] * 8]:
                with self.subTest(name, turns=turns):
                    self.assert_raises_just(InvalidQuestion, action, turns)

    def test_one_and_six_turns(self):
        for name, action in FUNCTIONS.items():
            for many in range(1, 7):
                with self.subTest(name, many=many):
                    self.assertEqual(action([EXAMPLE] * many), action([EXAMPLE]))

    def test_what_is_no_turn_comes_ahead_of_how_many_there_are(self):
        for name, action in FUNCTIONS.items():
            for wrong in NO_TURNS:
                for turns in [[EXAMPLE] * 6 + [wrong], [wrong] + [EXAMPLE] * 6, [wrong] * 7]:
                    with self.subTest(name, turns=turns):
                        self.assert_raises_just(InvalidTurn, action, turns)

    def test_other_points(self):
        for action in (is_common, parts_in_base):
            for wrong in NO_POINTS:
                with self.subTest(wrong):
                    self.assert_raises_just(InvalidQuestion, action, [EXAMPLE], wrong)
                    self.assert_raises_just(InvalidQuestion, action, [], wrong)
                    self.assert_raises_just(InvalidTurn, action, [NO_TURNS[-1]], wrong)
                    self.assert_raises_just(InvalidTurn, action, [EXAMPLE] * 6 + [NO_TURNS[-1]], wrong)

    def test_opposite_numbers_have_one_lattice(self):
        number = (3, 1, 1, 5)
        self.assertEqual(common_base([turn_of(number)]), common_base([turn_of(opposite(number))]))


if __name__ == "__main__":
    unittest.main()
