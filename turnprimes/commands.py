"""The commands that lines of a session can be."""

from turnprimes.desk import KINDS
from turnprimes.names import is_name
from turnprimes.notation import is_integer_word

# How many names stand behind each command other than ask, and how many integers behind the names.
_FORMS = {
    "set": (1, 4),
    "product": (3, 0),
    "sum": (3, 0),
    "conjugate": (2, 0),
    "remove": (1, 0),
    "drop": (1, 0),
    "answer": (1, 0),
    "answers": (0, 0),
    "print": (1, 0),
    "numbers": (0, 0),
    "questions": (0, 0),
    "undo": (0, 0),
    "redo": (0, 0),
}


def split_words(line):
    """Return the parts of the line between spaces that are not empty."""
    return [word for word in line.split(" ") if word != ""]


def is_command(words):
    """Tell whether the words of a line are a command."""
    command, *rest = words
    if command == "ask":
        return _is_question(rest)
    if command not in _FORMS:
        return False
    names, integers = _FORMS[command]
    if len(rest) != names + integers:
        return False
    return _are_names(rest[:names]) and all([is_integer_word(word) for word in rest[names:]])


def _is_question(words):
    """Tell whether the words behind ask are the name of a question, its kind and as many names as this takes."""
    if len(words) < 2 or KINDS.get(words[1]) != len(words) - 2:
        return False
    return _are_names(words[:1] + words[2:])


def _are_names(words):
    return all([is_name(word) for word in words])
