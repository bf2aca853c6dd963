"""The names of numbers and questions on a desk."""

_MOST_SIGNS = 12
_LETTERS = "abcdefghijklmnopqrstuvwxyz"
_SIGNS = _LETTERS + "0123456789"


def is_name(text):
    """Tell whether the text is a name."""
    if not 1 <= len(text) <= _MOST_SIGNS:
        return False
    return text[0] in _LETTERS and all([sign in _SIGNS for sign in text])
