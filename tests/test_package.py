"""Point 1 and the interface: what stands where, and what the program does not use."""

import ast
import builtins
import unittest
from pathlib import Path

FOLDER = Path(__file__).resolve().parent.parent / "turnprimes"

# What the interface lists for each file: functions with their parameters, and classes.
FUNCTIONS = {
    "numbers.py": {
        "is_number": "number", "check_number": "number", "check_not_zero": "number", "is_whole": "number",
        "of_integers": "integers", "opposite": "number", "conjugate": "number", "norm": "number",
        "added": "one, other", "less": "one, other", "times": "number, integer", "product": "one, other",
        "product_of": "numbers", "units": "", "is_unit": "number", "associates": "number", "canonical": "number",
        "unit_behind": "number", "are_associates": "one, other", "content": "number", "primitive_part": "number",
        "is_primitive": "number",
    },
    "notation.py": {"format_numbers": "numbers", "parse_numbers": "text"},
    "dividing.py": {
        "divided_left": "number, divisor", "divided_right": "number, divisor", "left_quotient": "number, divisor",
        "right_quotient": "number, divisor", "is_left_divisor": "divisor, number",
        "is_right_divisor": "divisor, number",
    },
    "common.py": {
        "left_common": "one, other", "left_sum": "one, other", "right_common": "one, other", "right_sum": "one, other",
        "canonical_ahead": "number", "least_multiple": "one, other", "are_apart": "one, other",
        "common_of": "numbers", "is_sum": "one, other, number", "both_sums": "one, other, number",
    },
    "factors.py": {
        "whole_primes": "value", "is_prime": "value", "primes_of": "prime", "left_primes": "number, prime",
        "row_of": "number, primes", "number_by": "row, unit", "row_of_factors": "factors",
        "same_factoring": "one, other", "moved": "factors, place, unit",
    },
    "rows.py": {
        "cancels": "one, other", "is_reduced_row": "row", "shows_primitive": "row",
        "check_factoring": "number, factors", "factorings": "number, primes, *, limit=2000",
        "factoring_count": "number, primes, *, limit=2000", "order_count": "number",
    },
    "turns.py": {
        "turn_of": "number", "check_turn": "turn", "number_of_turn": "turn", "composed": "first, second",
        "inverse": "turn", "order_of": "turn", "axis_of": "turn", "are_one_turn": "one, other",
        "turned": "turn, point",
    },
    "lattices.py": {
        "common_base": "turns", "common_index": "turns", "is_common": "turns, point", "parts_in_base": "turns, point",
    },
    "names.py": {"is_name": "text"},
    "lists.py": {
        "number_count": "value", "primitive_count": "value", "turn_count": "value",
        "numbers_of": "value, *, limit=20000", "primitive_of": "value, *, limit=20000",
        "by_content": "value, *, limit=20000", "primitive_at": "value, place", "place_of": "number",
        "opposite_place": "value, place",
    },
    "desk.py": {"decide": "kind, numbers"},
    "commands.py": {"split_words": "line", "is_command": "words"},
    "texts.py": {"row_text": "row, unit", "parse_row": "text", "check_text": "number, text"},
    "squares.py": {
        "square_count": "value", "greatest_squares": "value", "all_squares": "value, *, limit=2000",
        "squares_of": "number", "multiplied": "one, other",
    },
    "tree.py": {
        "letters": "prime", "partner": "prime, letter", "product_at": "prime, word", "is_reduced": "prime, word",
        "word_of": "prime, number", "reduced": "prime, word", "is_place": "prime, number",
        "same_turn": "prime, one, other", "is_no_turn": "prime, word", "meeting": "prime, one, other",
        "distance": "prime, one, other", "way": "prime, one, other", "middle": "prime, one, other, third",
        "place_of": "prime, number, word", "place_count": "prime, length", "number_of": "prime, word",
        "word_at": "prime, length, number",
    },
    "tables.py": {
        "root_pair": "prime", "root_pairs": "prime", "table_of": "number, prime", "table_product": "one, other, prime",
        "determinant": "table, prime", "number_of_table": "table, prime", "lines": "prime", "line_of": "number, prime",
        "prime_of_line": "prime, line", "divides_by_lines": "factor, number",
    },
}
CLASSES = {
    "errors.py": [
        "TurnprimesError", "InvalidNumber", "InvalidTurn", "InvalidWord", "InvalidQuestion", "NothingToUndo",
        "NothingToRedo", "UnknownName", "InvalidNotation", "InvalidPaper", "TooMany", "NameInUse",
    ],
    "desk.py": ["Desk"],
    "session.py": ["Session"],
}
METHODS = {
    ("desk.py", "Desk"): {
        "__init__": "self", "set_number": "self, name, number", "make": "self, name, deed, names",
        "remove_number": "self, name", "ask": "self, name, kind, names", "drop": "self, name", "undo": "self",
        "redo": "self", "change_all": "self, changes", "number_names": "self", "question_names": "self",
        "number": "self, name", "question": "self, name", "answer": "self, name", "answers": "self",
    },
    ("session.py", "Session"): {"__init__": "self", "run": "self, text"},
}

LIBRARY = {
    "heapq": {"heappush", "heappop", "heapify", "heapreplace", "heappushpop"},
    "math": {"gcd", "lcm", "isqrt", "comb", "perm", "factorial"},
    "itertools": {
        "product", "combinations", "permutations", "chain", "accumulate", "pairwise", "islice", "zip_longest",
    },
    "collections": {"defaultdict", "deque"},
}
BUILTINS = set(
    "len range enumerate zip min max sum abs sorted reversed int str bool list tuple dict set isinstance ord repr any"
    " all divmod pow getattr hasattr setattr iter next map type property staticmethod classmethod super Exception"
    " ValueError TypeError KeyError IndexError LookupError ZeroDivisionError ArithmeticError OverflowError RuntimeError"
    " NotImplementedError AttributeError StopIteration NotImplemented object".split()
)


def files():
    return sorted(FOLDER.glob("*.py"))


def tree(path):
    return ast.parse(path.read_text(encoding="utf-8"))


class InterfaceTest(unittest.TestCase):
    def test_functions_are_defined_in_their_files_with_their_parameters(self):
        for name, functions in FUNCTIONS.items():
            defined = {node.name: node for node in tree(FOLDER / name).body if isinstance(node, ast.FunctionDef)}
            for function, parameters in functions.items():
                with self.subTest(file=name, function=function):
                    self.assertEqual(ast.unparse(defined[function].args), parameters)

    def test_classes_are_defined_in_their_files(self):
        for name, classes in CLASSES.items():
            defined = [node.name for node in tree(FOLDER / name).body if isinstance(node, ast.ClassDef)]
            self.assertEqual(sorted(defined), sorted(classes))

    def test_methods_are_defined_in_their_classes_with_their_parameters(self):
        for (name, owner), methods in METHODS.items():
            body, = [node.body for node in tree(FOLDER / name).body if getattr(node, "name", None) == owner]
            defined = {node.name: node for node in body if isinstance(node, ast.FunctionDef)}
            for method, parameters in methods.items():
                with self.subTest(owner=owner, method=method):
                    self.assertEqual(ast.unparse(defined[method].args), parameters)
                    self.assertEqual(defined[method].decorator_list, [])

    def test_the_file_of_the_package_defines_nothing(self):
        self.assertEqual(tree(FOLDER / "__init__.py").body, [])


class NothingFromOutsideTest(unittest.TestCase):
    def test_the_folder_holds_program_files_alone(self):
        for path in FOLDER.iterdir():
            self.assertTrue(path.suffix == ".py" or path.name == "__pycache__", path.name)

    def test_imports(self):
        for path in files():
            for node in ast.walk(tree(path)):
                self.assertNotIsInstance(node, ast.Import, path.name)
                if not isinstance(node, ast.ImportFrom) or node.module.startswith("turnprimes."):
                    continue
                self.assertIn(node.module, LIBRARY, path.name)
                self.assertLessEqual({alias.name for alias in node.names}, LIBRARY[node.module], path.name)

    def test_builtins(self):
        for path in files():
            names = {node.id for node in ast.walk(tree(path)) if isinstance(node, ast.Name)}
            self.assertLessEqual(names & set(dir(builtins)), BUILTINS, path.name)

    def test_sizes_and_characters(self):
        for path in files():
            text = path.read_text(encoding="utf-8")
            self.assertTrue(all(sign == "\n" or " " <= sign <= "~" for sign in text), path.name)
            lines = text.splitlines()
            self.assertLess(len(lines), 400, path.name)
            self.assertLessEqual(max(map(len, lines), default=0), 120, path.name)
            for node in ast.walk(tree(path)):
                if isinstance(node, ast.FunctionDef):
                    self.assertLessEqual(node.end_lineno - node.lineno + 1, 40, node.name)


if __name__ == "__main__":
    unittest.main()
