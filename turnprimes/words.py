"""Reduced words of the letters of a prime, counted and numbered.

The letters are the canonical numbers with the prime as norm, ascending. A word tells them by their places, from 1 on.
"""

from turnprimes.numbers import canonical, conjugate


def partner_of(letters, letter):
    """Return the partner of a letter, the one that does not follow it in a reduced word."""
    return letters.index(canonical(conjugate(letters[letter - 1]))) + 1


def word_count(many, length):
    """Return how many reduced words of a length there are, if there are so many letters."""
    if length == 0:
        return 1
    count = many
    for _ in range(length - 1):
        count *= many - 1
    return count


def number_of_word(letters, word):
    """Return the number, from 0 on, of a reduced word among those of its length, ascending."""
    number = 0
    for at, letter in enumerate(word):
        step = letter - 1
        # The letters above the one that is barred come one earlier.
        if at > 0 and letter > partner_of(letters, word[at - 1]):
            step -= 1
        number = number * (len(letters) - 1) + step
    return number


def word_of_number(letters, length, number):
    """Return the list of the letters of the reduced word that has the number among those of a length."""
    steps = []
    rest = number
    for _ in range(length - 1):
        rest, step = divmod(rest, len(letters) - 1)
        steps.append(step)
    if length > 0:
        steps.append(rest)
    word = []
    for step in reversed(steps):
        letter = step + 1
        if word and letter >= partner_of(letters, word[-1]):
            letter += 1
        word.append(letter)
    return word
