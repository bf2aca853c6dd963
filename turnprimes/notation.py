"""The written form of lists of numbers."""

from turnprimes.errors import InvalidNotation
from turnprimes.numbers import check_number

_MOST_DIGITS = 200


def format_numbers(numbers):
    """Return the written form of a list of numbers."""
    for number in numbers:
        check_number(number)
    return "\n".join(["numbers"] + [parts_line("number", number) for number in numbers])


def parse_numbers(text):
    """Return the list of the numbers that the text writes."""
    first, *rest = text.split("\n")
    if first != "numbers":
        raise InvalidNotation(1)
    for place, line in enumerate(rest, start=2):
        if not is_parts_line("number", line):
            raise InvalidNotation(place)
    numbers = [parts_of_line(line) for line in rest]
    # The form of all lines comes first: a fault in a later line outdoes what is no number.
    for number in numbers:
        check_number(number)
    return numbers


def parts_line(word, number):
    """Return the line of the word and the four doubled parts of the number."""
    return " ".join([word] + [integer_text(part) for part in number])


def is_parts_line(word, line):
    """Tell whether the line is the word and four integers, whatever integers they are."""
    first, *parts = line.split(" ")
    return first == word and len(parts) == 4 and all([is_integer_word(part) for part in parts])


def parts_of_line(line):
    """Return the tuple of the integers behind the word of a line of parts."""
    _, *parts = line.split(" ")
    return tuple([int(part) for part in parts])


def is_integer_word(word):
    """Tell whether the word is an integer as texts write it, of at most 200 digits."""
    if word == "0":
        return True
    digits = word.removeprefix("-")
    if not digits.isascii() or not digits.isdigit():
        return False
    return not digits.startswith("0") and len(digits) <= _MOST_DIGITS


def integer_text(value):
    """Return the digits of an integer of any size."""
    # Python's str refuses integers of many digits, so they are written block by block.
    block = 10 ** 64
    rest = abs(value)
    blocks = []
    while rest >= block:
        rest, low = divmod(rest, block)
        blocks.append(str(low).zfill(64))
    blocks.append(str(rest))
    sign = "-" if value < 0 else ""
    return sign + "".join(reversed(blocks))
