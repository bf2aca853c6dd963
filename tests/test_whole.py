"""Point 1: no function modifies its arguments, each answers the same again, and lists that are returned are new."""

import copy
import unittest

from turnprimes import (
    commands, common, desk, dividing, factors, lattices, lists, names, notation, numbers, rows, session, squares, tables,
    texts, tree, turns,
)

THREE = [3, 1, 1, 1]
FIVE = [4, 2, 0, 0]
TURN = [5, [[5, 0, 0], [0, 3, -4], [0, 4, 3]]]
TABLE = [[1, 2], [0, 1]]

# Calls of all functions that the interface lists, with lists wherever they may be passed.
CALLS = {
    numbers: {
        "is_number": [FIVE], "check_number": [FIVE], "check_not_zero": [FIVE], "is_whole": [FIVE],
        "of_integers": [[1, 2, 3, 4]], "opposite": [FIVE], "conjugate": [FIVE], "norm": [FIVE], "added": [FIVE, THREE],
        "less": [FIVE, THREE], "times": [FIVE, 3], "product": [FIVE, THREE], "product_of": [[FIVE, THREE]], "units": [],
        "is_unit": [FIVE], "associates": [FIVE], "canonical": [FIVE], "unit_behind": [FIVE],
        "are_associates": [FIVE, THREE], "content": [FIVE], "primitive_part": [FIVE], "is_primitive": [FIVE],
    },
    notation: {"format_numbers": [[FIVE, THREE]], "parse_numbers": ["numbers\nnumber 4 2 0 0"]},
    dividing: {
        "divided_left": [FIVE, THREE], "divided_right": [FIVE, THREE], "left_quotient": [FIVE, FIVE],
        "right_quotient": [FIVE, FIVE], "is_left_divisor": [FIVE, THREE], "is_right_divisor": [FIVE, THREE],
    },
    common: {
        "left_common": [FIVE, THREE], "left_sum": [FIVE, THREE], "right_common": [FIVE, THREE],
        "right_sum": [FIVE, THREE], "canonical_ahead": [FIVE], "least_multiple": [FIVE, THREE],
        "are_apart": [FIVE, THREE], "common_of": [[FIVE, THREE]], "is_sum": [FIVE, THREE, FIVE],
        "both_sums": [FIVE, THREE, FIVE],
    },
    factors: {
        "whole_primes": [360], "is_prime": [7], "primes_of": [5], "left_primes": [FIVE, 5], "row_of": [FIVE, [5]],
        "number_by": [[FIVE, THREE], [0, 2, 0, 0]], "row_of_factors": [[FIVE, THREE]],
        "same_factoring": [[FIVE], [THREE]], "moved": [[FIVE, THREE], 1, [0, 2, 0, 0]],
    },
    rows: {
        "cancels": [FIVE, THREE], "is_reduced_row": [[FIVE, THREE]], "shows_primitive": [[FIVE, THREE]],
        "check_factoring": [FIVE, [FIVE, [2, 0, 0, 0]]], "factorings": [[6, 0, 0, 0], [3, 3]],
        "factoring_count": [[6, 0, 0, 0], [3, 3]], "order_count": [FIVE],
    },
    turns: {
        "turn_of": [FIVE], "check_turn": [TURN], "number_of_turn": [TURN], "composed": [TURN, TURN], "inverse": [TURN],
        "order_of": [TURN], "axis_of": [TURN], "are_one_turn": [FIVE, THREE],
        "turned": [TURN, [[1, 1], [1, 2], [0, 1]]],
    },
    lattices: {
        "common_base": [[TURN]], "common_index": [[TURN]], "is_common": [[TURN], [3, 1, -3]],
        "parts_in_base": [[TURN], [3, 1, -3]],
    },
    names: {"is_name": ["q"]},
    lists: {
        "number_count": [6], "primitive_count": [6], "turn_count": [6], "numbers_of": [6], "primitive_of": [6],
        "by_content": [36], "primitive_at": [6, 5], "place_of": [FIVE], "opposite_place": [6, 5],
    },
    desk: {"decide": ["common", [FIVE, THREE]]},
    commands: {"split_words": ["set q 4 2 0 0"], "is_command": [["set", "q", "4", "2", "0", "0"]]},
    texts: {
        "row_text": [[FIVE, THREE], [0, 2, 0, 0]], "parse_row": ["row\nfactor 4 2 0 0\nunit 0 2 0 0"],
        "check_text": [FIVE, "row\nfactor 4 2 0 0\nunit 2 0 0 0"],
    },
    squares: {
        "square_count": [12], "greatest_squares": [12], "all_squares": [12], "squares_of": [FIVE],
        "multiplied": [[1, 1, 1, 0], [2, 1, 0, 0]],
    },
    tree: {
        "letters": [3], "partner": [3, 1], "product_at": [3, [1, 2]], "is_reduced": [3, [1, 1]], "word_of": [5, FIVE],
        "reduced": [3, [1, 1]], "is_place": [5, FIVE], "same_turn": [3, [1], [1, 1]], "is_no_turn": [3, [1]],
        "meeting": [3, [1, 2], [1, 3]], "distance": [3, [1, 2], [1, 3]], "way": [3, [1, 2], [1, 3]],
        "middle": [3, [1, 2], [1, 3], [1]], "place_of": [5, FIVE, [1, 2]], "place_count": [3, 3],
        "number_of": [3, [1, 2]], "word_at": [3, 2, 4],
    },
    tables: {
        "root_pair": [5], "root_pairs": [5], "table_of": [FIVE, 3], "table_product": [TABLE, TABLE, 3],
        "determinant": [TABLE, 3], "number_of_table": [TABLE, 3], "lines": [3], "line_of": [FIVE, 5],
        "prime_of_line": [3, [1, 2]], "divides_by_lines": [FIVE, THREE],
    },
}


def each_call():
    for module, functions in CALLS.items():
        for name, arguments in functions.items():
            yield (f"{module.__name__}.{name}", getattr(module, name), arguments)


def clear_lists(value):
    """Empty all lists that are in an answer."""
    if isinstance(value, (list, tuple)):
        for own in value:
            clear_lists(own)
    if isinstance(value, list):
        value.clear()


class WholeTest(unittest.TestCase):
    def test_arguments_stay_and_answers_are_the_same_again(self):
        for name, action, arguments in each_call():
            with self.subTest(name):
                before = copy.deepcopy(arguments)
                first = action(*arguments)
                self.assertEqual(arguments, before)
                expected = copy.deepcopy(first)
                # A list of an answer is neither kept nor one that was passed.
                clear_lists(first)
                self.assertEqual(arguments, before)
                self.assertEqual(action(*arguments), expected)

    def test_sessions_answer_the_same(self):
        text = "set q 4 2 0 0\nask n norm q\nanswers\nundo\nfoo"
        self.assertEqual(session.Session().run(text), session.Session().run(text))


if __name__ == "__main__":
    unittest.main()
