"""Points 57 to 59: how many numbers a norm has, lists of them, and the places of the primitive ones."""

import unittest
from itertools import product as every

from samples import NO_NUMBERS, ZERO, great_numbers, great_primes_below, number_of_norm, primes_in, small_numbers

from turnprimes.errors import InvalidNumber, InvalidQuestion, TooMany
from turnprimes.factors import number_by, primes_of, row_of
from turnprimes.lists import (
    by_content, number_count, numbers_of, opposite_place, place_of, primitive_at, primitive_count, primitive_of,
    turn_count,
)
from turnprimes.numbers import canonical, conjugate, content, is_primitive, norm, opposite, product, times, units
from turnprimes.turns import turn_of

I = (0, 2, 0, 0)
THREE = (3, 1, 1, 1)
OUT_OF_BOUNDS = [0, -1, -24, -10 ** 12, 10 ** 12 + 1, 10 ** 13, 10 ** 60]
GREAT_NORMS = [1009, 2 * 1009, 3 * 1013, 1009 ** 2, 999 * 999983, 10 ** 12 - 11]

COUNTS = {"number_count": number_count, "primitive_count": primitive_count, "turn_count": turn_count}
LISTS = {"numbers_of": numbers_of, "primitive_of": primitive_of, "by_content": by_content}
PLACES = {"primitive_at": primitive_at, "opposite_place": opposite_place}


def numbers_by_norm(most):
    """All numbers of each norm up to one, by trying all doubled parts."""
    found = {value: [] for value in range(1, most * most + 1)}
    for number in small_numbers(2 * most):
        if 1 <= norm(number) <= most * most:
            found[norm(number)].append(number)
    return found


BY_NORM = numbers_by_norm(4)
SOME_NORMS = [1, 2, 3, 5, 6, 7, 9, 10, 14, 15, 18, 21, 25, 27, 30, 45, 50]


def in_order_of_places(value):
    """The primitive numbers of a norm in the order of point 58, by the rows of all of them."""
    numbers = primitive_of(value)
    keys = []
    for number in numbers:
        row, unit = row_of(number, primes_in(number))
        keys.append((row, unit, number))
    return [number for _, _, number in sorted(keys)]


class CountsTest(unittest.TestCase):
    """Point 57."""

    def test_examples(self):
        self.assertEqual((number_count(12), primitive_count(12), primitive_count(6)), (96, 0, 96))
        self.assertEqual((number_count(1), primitive_count(1), turn_count(1)), (24, 24, 12))
        self.assertEqual((number_count(2), primitive_count(2), turn_count(2)), (24, 24, 12))
        self.assertEqual((number_count(3), primitive_count(3), turn_count(3)), (96, 96, 48))
        self.assertEqual((number_count(9), primitive_count(9), turn_count(9)), (312, 288, 144))

    def test_all_numbers_of_small_norms(self):
        for value, numbers in BY_NORM.items():
            with self.subTest(value):
                primitive = [number for number in numbers if is_primitive(number)]
                self.assertEqual(number_count(value), len(numbers))
                self.assertEqual(primitive_count(value), len(primitive))
                self.assertEqual(turn_count(value), len({turn_of(number) for number in primitive}))

    def test_sums_of_odd_divisors(self):
        for value in range(1, 400):
            self.assertEqual(number_count(value), 24 * sum(own for own in range(1, value + 1, 2) if value % own == 0))

    def test_all_contents_together(self):
        for value in range(1, 400):
            squares = [own for own in range(1, 20) if value % (own * own) == 0]
            self.assertEqual(number_count(value), sum(primitive_count(value // (own * own)) for own in squares))

    def test_powers_of_2(self):
        for power in range(40):
            self.assertEqual(number_count(2 ** power), 24)
            self.assertEqual(primitive_count(2 ** power), 24 if power < 2 else 0)
            self.assertEqual(turn_count(2 ** power), 12 if power < 2 else 0)

    def test_norms_that_4_divides(self):
        for value in [4, 8, 12, 16, 20, 36, 100, 4 * 997, 10 ** 12]:
            self.assertEqual(primitive_count(value), 0)
            self.assertEqual(turn_count(value), 0)

    def test_great_norms(self):
        prime, = great_primes_below(10 ** 12, 1)
        self.assertEqual(number_count(prime), 24 * (prime + 1))
        self.assertEqual(primitive_count(prime), 24 * (prime + 1))
        self.assertEqual(turn_count(prime), 12 * (prime + 1))
        self.assertEqual(number_count(10 ** 12), 6 * (5 ** 13 - 1))
        self.assertEqual(primitive_count(3 ** 25), 24 * 4 * 3 ** 24)
        self.assertEqual(primitive_count(2 * 3 ** 2 * 5 ** 3), 24 * 4 * 3 * 6 * 25)
        one, other = great_primes_below(10 ** 6, 2)
        self.assertEqual(number_count(one * other), 24 * (one + 1) * (other + 1))

    def test_norms_out_of_the_bounds(self):
        for name, action in COUNTS.items():
            for value in OUT_OF_BOUNDS:
                with self.subTest(name, value=value), self.assertRaises(InvalidQuestion):
                    action(value)


class ListsTest(unittest.TestCase):
    """Points 57 and 59."""

    def test_small_norms(self):
        for value, numbers in BY_NORM.items():
            with self.subTest(value):
                found = numbers_of(value)
                self.assertEqual(found, sorted(numbers))
                self.assertTrue(type(found) is list and all(type(number) is tuple for number in found))
                self.assertEqual(primitive_of(value), sorted(filter(is_primitive, numbers)))

    def test_norm_1(self):
        self.assertEqual(numbers_of(1), units())
        self.assertEqual(primitive_of(1), units())
        self.assertEqual(by_content(1), [(1, 24)])

    def test_greater_norms(self):
        for value in [101, 210, 315, 512, 720, 829, 1024, 3 * 2 ** 20, 625 * 2 ** 30]:
            with self.subTest(value):
                found = numbers_of(value)
                self.assertEqual(len(set(found)), number_count(value))
                self.assertEqual(len(found), number_count(value))
                self.assertEqual(found, sorted(found))
                self.assertEqual({norm(number) for number in found}, {value})
                self.assertEqual(len(primitive_of(value)), primitive_count(value))

    def test_powers_of_2(self):
        for power in range(40):
            found = numbers_of(2 ** power)
            self.assertEqual(len(found), 24)
            self.assertEqual(found, sorted(found))
            self.assertEqual({norm(number) for number in found}, {2 ** power})
            self.assertEqual(primitive_of(2 ** power), found if power < 2 else [])
            self.assertEqual(by_content(2 ** power), [(2 ** (power // 2), 24)])

    def test_contents(self):
        self.assertEqual(by_content(4), [(2, 24)])
        self.assertEqual(by_content(9), [(1, 288), (3, 24)])
        self.assertEqual(by_content(36), [(2, 288), (6, 24)])
        self.assertEqual(by_content(225), [(1, 8640), (3, 720), (5, 288), (15, 24)])
        self.assertEqual(by_content(6), [(1, 96)])
        # The contents ascend, whatever primes they are made of.
        self.assertEqual([own for own, _ in by_content(2025, limit=10 ** 5)], [1, 3, 5, 9, 15, 45])
        self.assertEqual([own for own, _ in by_content(16 * 2025, limit=10 ** 5)], [4, 12, 20, 36, 60, 180])

    def test_contents_of_all_numbers(self):
        for value in list(BY_NORM) + [18, 36, 45, 72, 81, 150, 225, 405]:
            contents = [content(number) for number in numbers_of(value)]
            expected = [(own, contents.count(own)) for own in sorted(set(contents))]
            self.assertEqual(by_content(value), expected)

    def test_contents_of_great_norms(self):
        found = by_content(10 ** 12, limit=10 ** 10)
        self.assertEqual(found, [(2 ** 6 * 5 ** k, primitive_count(5 ** (12 - 2 * k))) for k in range(7)])

    def test_limits_that_are_just_enough_and_one_less(self):
        for name, action in LISTS.items():
            for value in [1, 2, 3, 4, 9, 12, 36, 2 ** 39]:
                many = number_count(value)
                with self.subTest(name, value=value):
                    self.assertEqual(action(value, limit=many), action(value))
                    self.assertEqual(action(value, limit=many + 1), action(value))
                    for limit in (many - 1, 0):
                        with self.assertRaises(TooMany) as caught:
                            action(value, limit=limit)
                        self.assertEqual(caught.exception.limit, limit)

    def test_all_numbers_count_for_the_limit_not_the_primitive_ones(self):
        self.assertEqual(primitive_of(4, limit=24), [])
        with self.assertRaises(TooMany):
            primitive_of(4, limit=23)
        self.assertEqual(len(primitive_of(9, limit=312)), 288)
        with self.assertRaises(TooMany):
            primitive_of(9, limit=311)
        with self.assertRaises(TooMany):
            by_content(9, limit=311)

    def test_the_limit_that_is_not_passed(self):
        for action in LISTS.values():
            self.assertGreater(len(action(829)), 0)
            for value in (839, 10 ** 12, 10 ** 12 - 11):
                with self.assertRaises(TooMany) as caught:
                    action(value)
                self.assertEqual(caught.exception.limit, 20000)
        self.assertEqual(len(numbers_of(839, limit=20160)), 20160)

    def test_norms_out_of_the_bounds(self):
        for name, action in LISTS.items():
            for value in OUT_OF_BOUNDS:
                for limit in (0, 20000):
                    with self.subTest(name, value=value), self.assertRaises(InvalidQuestion):
                        action(value, limit=limit)

    def test_a_new_list_each_time(self):
        for action in LISTS.values():
            found = action(9)
            found.clear()
            self.assertGreater(len(action(9)), 0)


class PlacesTest(unittest.TestCase):
    """Point 58."""

    def test_all_places_of_some_norms(self):
        for value in SOME_NORMS:
            numbers = in_order_of_places(value)
            with self.subTest(value):
                self.assertEqual([primitive_at(value, place) for place in range(len(numbers))], numbers)
                self.assertEqual([place_of(number) for number in numbers], list(range(len(numbers))))

    def test_norm_1(self):
        self.assertEqual([primitive_at(1, place) for place in range(24)], units())
        self.assertEqual(place_of((2, 0, 0, 0)), 23)
        self.assertEqual(place_of([-2, 0, 0, 0]), 0)

    def test_the_first_and_the_last_place(self):
        for value in SOME_NORMS + [2 * 3 ** 5, 3 ** 25, 5 ** 17, 991 ** 4, 2 * 997 * 991 * 983, 2 * 3 * 5 * 7 * 11 * 13]:
            last = primitive_count(value) - 1
            for place in (0, 1, 23, 24, last // 3, last - 24, last - 1, last):
                if not 0 <= place <= last:
                    continue
                number = primitive_at(value, place)
                self.assertIs(type(number), tuple)
                self.assertEqual((norm(number), is_primitive(number)), (value, True))
                self.assertEqual(place_of(number), place)
                self.assertEqual(place_of(list(number)), place)

    def test_first_and_last_numbers_by_hand(self):
        least, most = units()[0], units()[-1]
        letters = primes_of(3)
        self.assertEqual(primitive_at(3, 0), product(letters[0], least))
        self.assertEqual(primitive_at(3, 95), product(letters[-1], most))
        # Each letter of 3 is its own partner, so none stands behind itself.
        self.assertTrue(all(canonical(conjugate(letter)) == letter for letter in letters))
        self.assertEqual(primitive_at(9, 0), number_by([letters[0], letters[1]], least))
        self.assertEqual(primitive_at(9, 287), number_by([letters[3], letters[2]], most))
        self.assertEqual(primitive_at(9, 72), number_by([letters[1], letters[0]], least))
        # A prime that comes first decides first.
        self.assertEqual(primitive_at(15, 24), number_by([letters[0], primes_of(5)[1]], least))
        self.assertEqual(primitive_at(15, 144), number_by([letters[1], primes_of(5)[0]], least))
        self.assertEqual(primitive_at(6, 24), number_by([(2, 2, 0, 0), letters[1]], least))

    def test_numbers_with_the_same_primes_and_another_unit_stand_side_by_side(self):
        row = [(2, 2, 0, 0), (3, 1, -1, 1), (4, 2, 0, 0)]
        places = [place_of(number_by(row, unit)) for unit in units()]
        self.assertEqual(places, list(range(places[0], places[0] + 24)))
        self.assertEqual(places[0] % 24, 0)

    def test_places_are_in_the_order_of_the_rows(self):
        for value in (2 * 3 ** 3 * 5 ** 2, 61 ** 2, 3 * 61 ** 2):
            latest = None
            for place in range(0, primitive_count(value), primitive_count(value) // 211):
                number = primitive_at(value, place)
                key = row_of(number, primes_in(number))
                self.assertTrue(latest is None or latest < key)
                self.assertEqual(place_of(number), place)
                latest = key

    def test_the_place_of_the_conjugate(self):
        for value in SOME_NORMS:
            for place in range(0, primitive_count(value), 5):
                found = opposite_place(value, place)
                self.assertEqual(primitive_at(value, found), conjugate(primitive_at(value, place)))
                self.assertEqual(opposite_place(value, found), place)
        self.assertEqual(opposite_place(1, 23), 23)
        self.assertEqual(opposite_place(1, 0), 0)
        self.assertEqual(opposite_place(1, 9), place_of((0, 2, 0, 0)))
        last = primitive_count(3 ** 25) - 1
        self.assertEqual(opposite_place(3 ** 25, last), place_of(conjugate(primitive_at(3 ** 25, last))))

    def test_places_that_are_none(self):
        for name, action in PLACES.items():
            for value in [1, 2, 3, 9, 30, 3 ** 25, 997]:
                many = primitive_count(value)
                for place in (-1, -24, -many, many, many + 1, 10 ** 30):
                    with self.subTest(name, value=value, place=place), self.assertRaises(InvalidQuestion):
                        action(value, place)
            for value, place in every([4, 8, 12, 36, 4 * 997, 2 ** 39], [-1, 0, 1, 24]):
                with self.subTest(name, value=value, place=place), self.assertRaises(InvalidQuestion):
                    action(value, place)

    def test_norms_out_of_the_bounds(self):
        for name, action in PLACES.items():
            for value, place in every(OUT_OF_BOUNDS, (0, -1, 10 ** 13)):
                with self.subTest(name, value=value), self.assertRaises(InvalidQuestion):
                    action(value, place)

    def test_primes_above_1000(self):
        self.assertEqual(place_of(primitive_at(997, 100)), 100)
        for name, action in PLACES.items():
            for value, place in every(GREAT_NORMS, (0, 1, -1)):
                with self.subTest(name, value=value), self.assertRaises(InvalidQuestion):
                    action(value, place)
        for value in [1009, 2 * 1009, 3 * 1013, 1009 ** 2]:
            number = number_of_norm(value)
            if is_primitive(number):
                with self.subTest(number), self.assertRaises(InvalidQuestion):
                    place_of(number)
        self.assertEqual(norm((60, 20, 6, 0)), 1009)
        for number in [(60, 20, 6, 0), product(THREE, (60, 20, 6, 0)), product((60, 20, 6, 0), (60, 20, 6, 0))]:
            with self.subTest(number), self.assertRaises(InvalidQuestion):
                place_of(number)

    def test_what_has_no_place(self):
        for number in [
            ZERO, [0, 0, 0, 0], (4, 0, 0, 0), (2, 2, 2, 2), (6, 0, 0, 0), times(THREE, -5), times(I, 7),
            (2 * 10 ** 6, 2, 0, 0), great_numbers(30, 1)[0], (2 * 10 ** 7, 0, 0, 0), (2 ** 40, 0, 0, 0),
        ]:
            with self.subTest(number), self.assertRaises(InvalidQuestion):
                place_of(number)
        for wrong in NO_NUMBERS:
            with self.subTest(wrong), self.assertRaises(InvalidNumber):
                place_of(wrong)

    def test_opposite_numbers_have_two_places_and_one_turn(self):
        for number in primitive_of(5)[::7]:
            self.assertNotEqual(place_of(number), place_of(opposite(number)))
            self.assertEqual(place_of(number) // 24, place_of(opposite(number)) // 24)

    def test_numbers_that_are_passed_stay(self):
        number = [3, 1, 1, 1]
        place_of(number)
        self.assertEqual(number, [3, 1, 1, 1])


if __name__ == "__main__":
    unittest.main()
