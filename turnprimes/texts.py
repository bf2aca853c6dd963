"""The written form of a row of numbers and the unit behind it."""

from turnprimes.errors import InvalidPaper
from turnprimes.factors import check_numbers
from turnprimes.notation import is_parts_line, parts_line, parts_of_line
from turnprimes.numbers import canonical, check_not_zero, is_number
from turnprimes.rows import check_factoring


def row_text(row, unit):
    """Return the written form of a list of numbers and the unit behind them."""
    check_numbers([*row, unit])
    return "\n".join(["row"] + [parts_line("factor", number) for number in row] + [parts_line("unit", unit)])


def parse_row(text):
    """Return the list of the numbers that the text writes, and the number behind them."""
    first, *rest = text.split("\n")
    if first != "row":
        raise InvalidPaper(1)
    row = []
    unit = None
    for place, line in enumerate(rest, start=2):
        if unit is None and _is_number_line("factor", line):
            row.append(parts_of_line(line))
        elif unit is None and _is_number_line("unit", line):
            unit = parts_of_line(line)
        else:
            raise InvalidPaper(place)
    if unit is None:
        # The line of the unit is missed behind the last line.
        raise InvalidPaper(len(rest) + 2)
    return (row, unit)


def check_text(number, text):
    """Tell whether the text is right for the number: canonical factors and a unit that make it."""
    check_not_zero(number)
    row, unit = parse_row(text)
    # Norms that are primes come first, as 0 has no canonical associate.
    return check_factoring(number, [*row, unit]) and all([canonical(factor) == factor for factor in row])


def _is_number_line(word, line):
    return is_parts_line(word, line) and is_number(parts_of_line(line))
