"""Points 81 to 91: words of the letters of one prime."""

import random
import unittest
from itertools import product as every

from samples import NO_NUMBERS, ONE, ZERO, great_numbers

from turnprimes.errors import InvalidNumber, InvalidQuestion, InvalidWord
from turnprimes.factors import primes_of, row_of
from turnprimes.numbers import (
    are_associates, associates, canonical, conjugate, content, is_primitive, is_unit, norm, opposite, primitive_part,
    product, product_of, times, unit_behind, units,
)
from turnprimes.tree import (
    distance, is_no_turn, is_place, is_reduced, letters, meeting, middle, number_of, partner, place_count, place_of,
    product_at, reduced, same_turn, way, word_at, word_of,
)
from turnprimes.turns import turn_of

ODD_PRIMES = [value for value in range(3, 200) if all(value % divisor for divisor in range(2, value))]
NO_PRIMES = [0, 1, 2, -1, -3, -5, 4, 6, 9, 15, 25, 91, 195, 198, 200, 201, 209, 211, 997, 1009, 10 ** 12 - 11, 10 ** 20]
NO_WORDS = [(0,), (5,), (-1,), (1, 0), (1, 2, 5), (10 ** 30,), [1, -4], (True,), (False,), (1, True), [2, False, 1]]
I = (0, 2, 0, 0)
NO_TURN = turn_of(ONE)

# Each function of words, with a word and what else it takes for the prime 3.
WITH_WORDS = {
    "product_at": lambda prime, word: product_at(prime, word),
    "is_reduced": lambda prime, word: is_reduced(prime, word),
    "reduced": lambda prime, word: reduced(prime, word),
    "same_turn": lambda prime, word: same_turn(prime, word, (1,)),
    "same_turn behind": lambda prime, word: same_turn(prime, (1,), word),
    "is_no_turn": lambda prime, word: is_no_turn(prime, word),
    "meeting": lambda prime, word: meeting(prime, word, (1,)),
    "meeting behind": lambda prime, word: meeting(prime, (1,), word),
    "distance": lambda prime, word: distance(prime, word, (1,)),
    "distance behind": lambda prime, word: distance(prime, (1,), word),
    "way": lambda prime, word: way(prime, word, (1,)),
    "way behind": lambda prime, word: way(prime, (1,), word),
    "middle": lambda prime, word: middle(prime, word, (1,), ()),
    "middle between": lambda prime, word: middle(prime, (1,), word, ()),
    "middle behind": lambda prime, word: middle(prime, (1,), (), word),
    "place_of": lambda prime, word: place_of(prime, ONE, word),
    "number_of": lambda prime, word: number_of(prime, word),
    "partner": lambda prime, word: partner(prime, word[-1]),
}
WITH_NUMBERS = {
    "word_of": lambda prime, number: word_of(prime, number),
    "is_place": lambda prime, number: is_place(prime, number),
    "place_of": lambda prime, number: place_of(prime, number, (1,)),
}


def words_up_to(prime, most):
    """All words of lengths up to one."""
    return [word for length in range(most + 1) for word in every(range(1, prime + 2), repeat=length)]


def reduced_words(prime, length):
    """All reduced words of a length, ascending."""
    words = every(range(1, prime + 2), repeat=length)
    return [word for word in words if all(partner(prime, one) != other for one, other in zip(word, word[1:]))]


def random_words(prime, length, many):
    source = random.Random(100 * prime + length)
    return [tuple(source.randrange(1, prime + 2) for _ in range(length)) for _ in range(many)]


def some_places():
    """Some primes, each with some words, reduced and not."""
    return [(3, words_up_to(3, 2) + random_words(3, 9, 6)), (5, words_up_to(5, 1) + random_words(5, 6, 8)),
            (7, random_words(7, 3, 8) + [()]), (199, random_words(199, 2, 4) + [(1,)])]


def power_of_norm(prime, number):
    power, rest = 0, norm(number)
    while rest % prime == 0:
        power, rest = power + 1, rest // prime
    return power


class LettersTest(unittest.TestCase):
    """Points 81 and 82."""

    def test_letters(self):
        self.assertEqual(letters(3), [(3, 1, -1, -1), (3, 1, -1, 1), (3, 1, 1, -1), (3, 1, 1, 1)])
        for prime in ODD_PRIMES:
            found = letters(prime)
            self.assertEqual(found, primes_of(prime))
            self.assertEqual(len(found), prime + 1)
        letters(3).clear()
        self.assertEqual(len(letters(3)), 4)

    def test_partners(self):
        for prime in (3, 5, 7, 11, 13, 61, 199):
            own = letters(prime)
            for letter in range(1, prime + 2):
                found = partner(prime, letter)
                self.assertTrue(are_associates(own[found - 1], conjugate(own[letter - 1])))
                made = product(own[letter - 1], own[found - 1])
                self.assertEqual((content(made), norm(made)), (prime, prime * prime))

    def test_the_partner_of_the_partner_can_be_another_letter(self):
        own = letters(61)
        found = partner(61, 7)
        back = partner(61, found)
        self.assertNotEqual(back, 7)
        self.assertIs(is_reduced(61, (7, found)), False)
        self.assertIs(is_reduced(61, (found, 7)), True)
        self.assertIs(is_reduced(61, (found, back)), False)
        self.assertTrue(is_primitive(product(own[found - 1], own[6])))
        for word in [(found, 7), (found, back - 1), (found, back + 1)]:
            self.assertEqual(word_at(61, 2, number_of(61, word)), word)

    def test_a_letter_times_others_is_primitive(self):
        for prime in (3, 5, 7):
            own = letters(prime)
            for one, other in every(range(1, prime + 2), repeat=2):
                made = product(own[one - 1], own[other - 1])
                self.assertEqual(is_primitive(made), partner(prime, one) != other)

    def test_letters_that_are_their_own_partners(self):
        self.assertEqual([partner(3, letter) for letter in range(1, 5)], [1, 2, 3, 4])
        self.assertTrue(any(partner(5, letter) != letter for letter in range(1, 7)))
        # The conjugate of 2 + i is an associate of 2 - i, and not of 2 + i.
        place = letters(5).index((4, 2, 0, 0)) + 1
        self.assertNotEqual(partner(5, place), place)
        self.assertEqual(letters(5)[partner(5, place) - 1], canonical((4, -2, 0, 0)))


class WordsTest(unittest.TestCase):
    """Points 81, 83 and 84."""

    def test_products(self):
        for prime, words in some_places():
            own = letters(prime)
            for word in words:
                expected = product_of([own[letter - 1] for letter in word])
                self.assertEqual(product_at(prime, word), expected)
                self.assertEqual(product_at(prime, list(word)), expected)
                self.assertEqual(norm(expected), prime ** len(word))
        self.assertEqual(product_at(3, ()), ONE)
        self.assertEqual(product_at(3, [4]), (3, 1, 1, 1))

    def test_reduced_words_have_primitive_products(self):
        for prime, words in some_places():
            for word in words:
                expected = all(partner(prime, one) != other for one, other in zip(word, word[1:]))
                self.assertIs(is_reduced(prime, word), expected)
                self.assertIs(is_reduced(prime, list(word)), expected)
                self.assertEqual(is_primitive(product_at(prime, word)), expected)
        self.assertIs(is_reduced(3, ()), True)
        self.assertIs(is_reduced(3, (1,)), True)
        self.assertIs(is_reduced(3, (1, 1)), False)
        self.assertIs(is_reduced(3, (1, 2, 1, 2)), True)
        self.assertIs(is_reduced(3, (1, 2, 3, 3)), False)

    def test_the_word_of_a_number(self):
        for prime, words in some_places():
            for word in words:
                if not is_reduced(prime, word):
                    continue
                for many, unit in every((0, 1, 3), units()[::7]):
                    number = product(times(product_at(prime, word), prime ** many), unit)
                    self.assertEqual(word_of(prime, number), (many, word, unit))
                    self.assertEqual(word_of(prime, list(number)), (many, word, unit))
                    self.assertIs(is_place(prime, number), many == 0 and unit == ONE)

    def test_units_and_powers_of_the_prime(self):
        for unit in units():
            self.assertEqual(word_of(5, unit), (0, (), unit))
            self.assertIs(is_place(5, unit), unit == ONE)
        self.assertEqual(word_of(7, (14, 0, 0, 0)), (1, (), ONE))
        self.assertEqual(word_of(3, (0, -54, 0, 0)), (3, (), (0, -2, 0, 0)))
        self.assertIs(is_place(7, (14, 0, 0, 0)), False)
        self.assertIs(is_place(3, [3, 1, 1, 1]), True)
        self.assertIs(is_place(3, (-3, -1, -1, -1)), False)

    def test_words_are_the_rows_of_the_numbers(self):
        for prime, words in some_places():
            for word in words:
                number = product(product_at(prime, word), I)
                if is_reduced(prime, word) and norm(number) <= 10 ** 12:
                    row, unit = row_of(number, [prime] * len(word))
                    self.assertEqual([letters(prime)[letter - 1] for letter in word_of(prime, number)[1]], row)
                    self.assertEqual(unit, I)

    def test_reducing(self):
        self.assertEqual(reduced(3, (1, 1)), (1, (), (1, 1, -1, -1)))
        self.assertEqual(reduced(3, ()), (0, (), ONE))
        for prime, words in some_places():
            for word in words:
                many, found, unit = reduced(prime, word)
                self.assertIs(type(found), tuple)
                self.assertTrue(is_reduced(prime, found) and is_unit(unit))
                made = product(times(product_at(prime, found), prime ** many), unit)
                self.assertEqual(made, product_at(prime, word))
                self.assertEqual(len(word), len(found) + 2 * many)
                self.assertEqual(reduced(prime, list(word)), (many, found, unit))
                if is_reduced(prime, word):
                    self.assertEqual((many, found, unit), (0, word, ONE))
                self.assertEqual(word_of(prime, product_at(prime, word)), (many, found, unit))

    def test_reducing_step_by_step(self):
        for prime in (3, 5, 13):
            own = letters(prime)
            for word in random_words(prime, 12, 20):
                many, found, unit = 0, [], ONE
                for letter in word:
                    # The unit stands ahead of the letter, so it becomes another letter with a unit behind it.
                    led = product(unit, own[letter - 1])
                    found.append(own.index(canonical(led)) + 1)
                    unit = unit_behind(led)
                    if len(found) > 1 and partner(prime, found[-2]) == found[-1]:
                        last = product(own[found.pop(-2) - 1], own[found.pop() - 1])
                        unit = product(primitive_part(last), unit)
                        many += 1
                self.assertEqual(reduced(prime, word), (many, tuple(found), unit))

    def test_a_word_that_becomes_another_letter_with_a_unit_behind_it(self):
        own = letters(3)
        unit = reduced(3, (1, 1))[2]
        led = product(unit, own[1])
        expected = own.index(canonical(led)) + 1
        self.assertNotEqual(expected, 2)
        self.assertEqual(reduced(3, (1, 1, 2)), (1, (expected,), unit_behind(led)))
        self.assertNotEqual(unit_behind(led), ONE)

    def test_long_words(self):
        for prime in (3, 199):
            word = random_words(prime, 300, 1)[0]
            many, found, unit = reduced(prime, word)
            self.assertEqual(product(times(product_at(prime, found), prime ** many), unit), product_at(prime, word))
            self.assertTrue(is_reduced(prime, found))

    def test_words_that_are_passed_stay(self):
        word, number = [1, 1, 2], [6, 0, 0, 0]
        for action in WITH_WORDS.values():
            if action is not WITH_WORDS["number_of"]:
                action(3, word)
        for action in WITH_NUMBERS.values():
            action(3, number)
        self.assertEqual((word, number), ([1, 1, 2], [6, 0, 0, 0]))


class TurnsTest(unittest.TestCase):
    """Point 85."""

    def test_same_turns(self):
        for prime, words in [(3, words_up_to(3, 3)), (5, random_words(5, 2, 20) + [(), (1,)])]:
            turns = {word: turn_of(product_at(prime, word)) for word in words}
            for one, other in every(words[::2], words[::3]):
                self.assertIs(same_turn(prime, one, other), turns[one] == turns[other])
            for word in words:
                self.assertIs(same_turn(prime, word, list(word)), True)
                self.assertIs(is_no_turn(prime, word), turns[word] == NO_TURN)
                self.assertIs(is_no_turn(prime, list(word)), turns[word] == NO_TURN)

    def test_no_turn(self):
        self.assertIs(is_no_turn(3, ()), True)
        self.assertIs(is_no_turn(3, (1,)), False)
        # The letter 1 and its partner leave a unit that turns.
        self.assertIs(is_no_turn(3, (1, 1)), False)
        self.assertEqual(reduced(3, (1,) * 6)[:2], (3, ()))
        self.assertIs(is_no_turn(3, (1,) * 6), turn_of(reduced(3, (1,) * 6)[2]) == NO_TURN)

    def test_units_that_differ_in_the_sign(self):
        words = [word for word in words_up_to(3, 6) if len(word) == 6]
        found = {}
        for word in words[::3]:
            many, place, unit = reduced(3, word)
            if place == ():
                found.setdefault(unit, word)
        self.assertGreater(len(found), 2)
        for one, other in every(found, repeat=2):
            self.assertIs(same_turn(3, found[one], found[other]), one in (other, opposite(other)))
            self.assertIs(is_no_turn(3, found[one]), one in (ONE, opposite(ONE)))
        self.assertTrue(any(opposite(unit) in found for unit in found))

    def test_reduced_words_make_different_turns(self):
        words = [word for length in range(4) for word in reduced_words(3, length)]
        self.assertEqual(len({turn_of(product_at(3, word)) for word in words}), len(words))
        self.assertFalse(any(is_no_turn(3, word) for word in words if word))


class PlacesTest(unittest.TestCase):
    """Points 86 to 88."""

    def test_meetings(self):
        for prime, words in some_places():
            for one, other in every(words[::2], words[::3]):
                first, second = reduced(prime, one)[1], reduced(prime, other)[1]
                many = 0
                while first[:many + 1] == second[:many + 1] and many < max(len(first), len(second)):
                    many += 1
                found = meeting(prime, one, other)
                self.assertIs(type(found), tuple)
                self.assertEqual(found, first[:many])
                self.assertEqual(meeting(prime, list(other), list(one)), found)
        self.assertEqual(meeting(3, (1, 2, 3), (1, 2, 1, 4)), (1, 2))
        self.assertEqual(meeting(3, (1, 2), (1, 2, 1, 4)), (1, 2))
        self.assertEqual(meeting(3, (1, 2), (2, 1)), ())
        self.assertEqual(meeting(3, (1, 2), ()), ())
        self.assertEqual(meeting(3, (), ()), ())

    def test_ways(self):
        for prime, words in some_places():
            for one, other in every(words[::2], words[::3]):
                found = way(prime, one, other)
                self.assertIs(type(found), list)
                self.assertEqual((found[0], found[-1]), (reduced(prime, one)[1], reduced(prime, other)[1]))
                for here, there in zip(found, found[1:]):
                    longer, shorter = (here, there) if len(here) > len(there) else (there, here)
                    self.assertEqual(longer[:-1], shorter)
                self.assertEqual(len(set(found)), len(found))
                self.assertTrue(all(type(word) is tuple and is_reduced(prime, word) for word in found))
                self.assertIn(meeting(prime, one, other), found)
                self.assertEqual(distance(prime, one, other), len(found) - 1)
                self.assertEqual(way(prime, list(other), list(one)), found[::-1])

    def test_examples_of_ways(self):
        self.assertEqual(way(3, (1, 2), (1, 3)), [(1, 2), (1,), (1, 3)])
        self.assertEqual(way(3, (1, 2), (2,)), [(1, 2), (1,), (), (2,)])
        self.assertEqual(way(3, (), (1, 2)), [(), (1,), (1, 2)])
        self.assertEqual(way(3, (1, 2), ()), [(1, 2), (1,), ()])
        self.assertEqual(way(3, (1, 2), (1, 2)), [(1, 2)])
        self.assertEqual(way(3, (), ()), [()])
        # The word (4, 4) stands for the place without letters.
        self.assertEqual(way(3, (1,), (4, 4)), [(1,), ()])

    def test_places_of_which_one_is_on_the_way_to_the_other(self):
        self.assertEqual(meeting(3, (1, 2), (1, 2, 3, 4)), (1, 2))
        self.assertEqual(way(3, (1, 2), (1, 2, 3, 4)), [(1, 2), (1, 2, 3), (1, 2, 3, 4)])
        self.assertEqual(distance(3, (1, 2), (1, 2, 3, 4)), 2)
        self.assertEqual(middle(3, (1, 2), (1, 2, 3, 4), (1,)), (1, 2))

    def test_distances_by_norms(self):
        self.assertEqual(distance(3, (1, 2), (1, 3)), 2)
        for prime, words in some_places():
            for one, other in every(words[::2], words[::3]):
                across = product(conjugate(product_at(prime, one)), product_at(prime, other))
                self.assertEqual(distance(prime, one, other), power_of_norm(prime, primitive_part(across)))

    def test_middles(self):
        for prime, words in some_places():
            for one, other, third in every(words[::3], words[::4], words[::5]):
                found = middle(prime, one, other, third)
                self.assertIs(type(found), tuple)
                on_all = [word for word in way(prime, one, other)
                          if word in way(prime, other, third) and word in way(prime, one, third)]
                self.assertEqual(on_all, [found])

    def test_examples_of_middles(self):
        self.assertEqual(middle(3, (1, 2, 3), (1, 2, 4), (1, 3)), (1, 2))
        self.assertEqual(middle(3, (1, 3), (1, 2, 3), (1, 2, 4)), (1, 2))
        self.assertEqual(middle(3, (1, 2, 3), (1, 3), (1, 2, 4)), (1, 2))
        self.assertEqual(middle(3, (1,), (2,), (3,)), ())
        self.assertEqual(middle(3, (1, 2), (2,), (1, 3)), (1,))
        self.assertEqual(middle(3, (1, 2, 3), [1, 2, 3], (1, 2, 3)), (1, 2, 3))
        self.assertEqual(middle(3, (1, 2), (1, 2), (4, 1)), (1, 2))
        self.assertEqual(middle(3, (), (), ()), ())


class LeadingTest(unittest.TestCase):
    """Point 89."""

    def test_where_numbers_lead(self):
        for prime, words in some_places():
            numbers = [product(product_at(prime, word), I) for word in words[::4]] + [(1, 1, -1, 1), (2 * prime, 0, 0, 0)]
            for number, word in every(numbers, words[::2]):
                led = place_of(prime, number, word)
                self.assertIs(type(led), tuple)
                self.assertEqual(led, word_of(prime, product(number, product_at(prime, word)))[1])
                self.assertEqual(led, place_of(prime, list(number), list(reduced(prime, word)[1])))

    def test_distances_stay(self):
        for prime, words in some_places():
            number = product(product_at(prime, words[-1]), (1, -1, 1, 1))
            for one, other in every(words[::2], words[::3]):
                led = [place_of(prime, number, word) for word in (one, other)]
                self.assertEqual(distance(prime, *led), distance(prime, one, other))

    def test_one_after_another(self):
        one, other = product_at(3, (1, 2, 1)), product(product_at(3, (2, 4)), I)
        for word in words_up_to(3, 3):
            self.assertEqual(place_of(3, one, place_of(3, other, word)), place_of(3, product(one, other), word))

    def test_numbers_that_lead_each_place_to_itself(self):
        for word in words_up_to(3, 2):
            for number in [ONE, opposite(ONE), (6, 0, 0, 0), (-54, 0, 0, 0)]:
                self.assertEqual(place_of(3, number, word), reduced(3, word)[1])
            self.assertEqual(place_of(3, conjugate(product_at(3, word)), word), ())

    def test_units_lead_letters_to_letters(self):
        for unit in units():
            led = [place_of(5, unit, (letter,)) for letter in range(1, 7)]
            self.assertEqual(sorted(led), [(letter,) for letter in range(1, 7)])
            self.assertEqual(place_of(5, unit, ()), ())
        self.assertTrue(any(place_of(5, unit, (1,)) != (1,) for unit in units()))


class NumberedTest(unittest.TestCase):
    """Point 90."""

    def test_counts(self):
        self.assertEqual(place_count(3, 3), 36)
        for prime in (3, 5, 199):
            self.assertEqual(place_count(prime, 0), 1)
            for length in range(1, 8):
                self.assertEqual(place_count(prime, length), (prime + 1) * prime ** (length - 1))
        self.assertEqual(place_count(7, 500), 8 * 7 ** 499)

    def test_all_words_of_a_length(self):
        for prime, most in [(3, 5), (5, 3), (7, 3), (13, 2)]:
            for length in range(most + 1):
                words = reduced_words(prime, length)
                self.assertEqual(len(words), place_count(prime, length))
                self.assertEqual(words, sorted(words))
                self.assertEqual([word_at(prime, length, at) for at in range(len(words))], words)
                self.assertEqual([number_of(prime, list(word)) for word in words], list(range(len(words))))

    def test_examples(self):
        self.assertEqual(word_at(3, 2, 4), (2, 3))
        self.assertEqual(word_at(3, 2, 0), (1, 2))
        self.assertEqual(word_at(3, 2, 11), (4, 3))
        self.assertEqual(number_of(3, (4, 3)), 11)
        self.assertEqual((word_at(3, 0, 0), number_of(3, ())), ((), 0))
        self.assertEqual((word_at(199, 1, 199), number_of(199, (200,))), ((200,), 199))

    def test_the_first_and_the_last_word(self):
        for prime, length in [(3, 1), (3, 200), (5, 40), (199, 30)]:
            last = place_count(prime, length) - 1
            for number in (0, 1, last // 2, last - 1, last):
                word = word_at(prime, length, number)
                self.assertIs(type(word), tuple)
                self.assertEqual((len(word), is_reduced(prime, word)), (length, True))
                self.assertEqual(number_of(prime, word), number)
            first = word_at(prime, length, 0)
            self.assertEqual(first[0], 1)
            self.assertTrue(all(letter <= 2 for letter in first))
            self.assertEqual(word_at(prime, length, last)[0], prime + 1)

    def test_lengths_and_numbers_that_there_are_not(self):
        for prime in (3, 199):
            for length in (-1, -2, -10 ** 20):
                with self.assertRaises(InvalidQuestion):
                    place_count(prime, length)
                for number in (-1, 0, 1):
                    with self.assertRaises(InvalidQuestion):
                        word_at(prime, length, number)
            for length in (0, 1, 2, 7):
                many = place_count(prime, length)
                for number in (-1, -many, many, many + 1, 10 ** 40):
                    with self.subTest(length=length, number=number), self.assertRaises(InvalidQuestion):
                        word_at(prime, length, number)

    def test_words_that_are_not_reduced(self):
        for word in [(1, 1), [4, 4], (1, 2, 2), (1, 1, 2), (1, 2, 3, 3, 1)]:
            with self.subTest(word), self.assertRaises(InvalidWord):
                number_of(3, word)
        place = letters(5).index((4, 2, 0, 0)) + 1
        self.assertEqual(word_at(5, 2, number_of(5, (place, place))), (place, place))
        with self.assertRaises(InvalidWord):
            number_of(5, (place, partner(5, place)))


class ErrorsTest(unittest.TestCase):
    """Point 91."""

    def assert_raises_just(self, error, action, *arguments):
        with self.assertRaises(error) as caught:
            action(*arguments)
        self.assertIs(type(caught.exception), error)

    def test_what_is_no_prime_of_the_range(self):
        for prime in NO_PRIMES:
            with self.subTest(prime):
                self.assert_raises_just(InvalidQuestion, letters, prime)
                for word in [(1,), (), (1, 1), (0,), (True,), (10 ** 30,)]:
                    for name, action in WITH_WORDS.items():
                        if name != "partner" or word:
                            self.assert_raises_just(InvalidQuestion, action, prime, word)
                for number in [ONE, ZERO, (1, 2, 3, 4), (), (4, 2, 0, 0)]:
                    for action in WITH_NUMBERS.values():
                        self.assert_raises_just(InvalidQuestion, action, prime, number)
                self.assert_raises_just(InvalidQuestion, place_of, prime, (1, 2, 3, 4), (0,))
                for length in (-1, 0, 1):
                    self.assert_raises_just(InvalidQuestion, place_count, prime, length)
                    self.assert_raises_just(InvalidQuestion, word_at, prime, length, 0)

    def test_all_primes_of_the_range(self):
        for prime in ODD_PRIMES:
            self.assertEqual(reduced(prime, (1, partner(prime, 1)))[:2], (1, ()))
            self.assertEqual(word_at(prime, 1, prime), (prime + 1,))

    def test_words_with_what_is_no_number_of_a_letter(self):
        for name, action in WITH_WORDS.items():
            for word in NO_WORDS:
                if name == "partner" and word[-1] in (1, 2, 3, 4) and not isinstance(word[-1], bool):
                    continue
                with self.subTest(name, word=word):
                    self.assert_raises_just(InvalidWord, action, 3, word)

    def test_the_greatest_letter_and_one_more(self):
        for prime in (3, 5, 199):
            self.assertEqual(product_at(prime, (prime + 1,)), letters(prime)[-1])
            self.assert_raises_just(InvalidWord, product_at, prime, (prime + 2,))
            self.assert_raises_just(InvalidWord, partner, prime, prime + 2)
            self.assert_raises_just(InvalidWord, partner, prime, 0)

    def test_two_wrong_words(self):
        for action in (same_turn, meeting, distance, way):
            self.assert_raises_just(InvalidWord, action, 3, (0,), (True,))
        self.assert_raises_just(InvalidWord, middle, 3, (), (0,), (False,))

    def test_what_is_no_number(self):
        for name, action in WITH_NUMBERS.items():
            for wrong in NO_NUMBERS:
                with self.subTest(name, wrong=wrong):
                    self.assert_raises_just(InvalidNumber, action, 3, wrong)
                    self.assert_raises_just(InvalidNumber, place_of, 3, wrong, (0,))

    def test_zero(self):
        for zero in (ZERO, [0, 0, 0, 0]):
            for action in WITH_NUMBERS.values():
                self.assert_raises_just(InvalidQuestion, action, 3, zero)
            # Zero comes ahead of the word.
            self.assert_raises_just(InvalidQuestion, place_of, 3, zero, (0,))

    def test_numbers_of_another_norm(self):
        for number in [(2, 2, 0, 0), (4, 2, 0, 0), (4, 0, 0, 0), (12, 0, 0, 0), product((3, 1, 1, 1), (4, 2, 0, 0)),
                       (30, 0, 0, 0), great_numbers(30, 1)[0]]:
            for action in WITH_NUMBERS.values():
                self.assert_raises_just(InvalidQuestion, action, 3, number)
            # The word comes ahead of the norm.
            self.assert_raises_just(InvalidWord, place_of, 3, number, (0,))
            self.assert_raises_just(InvalidWord, place_of, 3, number, (1, True))
        self.assert_raises_just(InvalidQuestion, word_of, 5, (3, 1, 1, 1))
        self.assertEqual(word_of(5, (4, 2, 0, 0))[0], 0)

    def test_associates_have_one_word(self):
        number = product_at(3, (1, 2, 3))
        for other in associates(number):
            self.assertEqual(word_of(3, other)[:2], (0, (1, 2, 3)))


if __name__ == "__main__":
    unittest.main()
