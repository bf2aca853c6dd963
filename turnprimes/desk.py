"""A desk that keeps numbers and questions about them under names."""

from turnprimes.common import left_common
from turnprimes.errors import InvalidQuestion, NameInUse, NothingToRedo, NothingToUndo, UnknownName
from turnprimes.factors import MOST, primes_of_norm
from turnprimes.numbers import added, check_not_zero, conjugate, content, norm, product
from turnprimes.turns import are_one_turn, order_of, turn_of

# The kinds of questions, with how many numbers each is about.
KINDS = {"norm": 1, "content": 1, "primes": 1, "order": 1, "same": 2, "common": 2}

# The deeds that make a number, with of how many numbers each makes it.
_DEEDS = {"product": 2, "sum": 2, "conjugate": 1}


def decide(kind, numbers):
    """Return the answer of a question of this kind about the numbers of a list."""
    if KINDS.get(kind) != len(numbers):
        raise InvalidQuestion("no question is of this kind and about so many numbers")
    for number in numbers:
        check_not_zero(number)
    first, last = numbers[0], numbers[-1]
    if kind == "norm":
        return ("norm", norm(first))
    if kind == "content":
        return ("content", content(first))
    if kind == "primes":
        return ("great",) if norm(first) > MOST else ("primes",) + tuple(primes_of_norm(first))
    if kind == "order":
        order = order_of(turn_of(first))
        return ("endless",) if order is None else ("order", order)
    if kind == "same":
        return ("yes",) if are_one_turn(first, last) else ("no",)
    return ("common",) + left_common(first, last)


class Desk:
    """Numbers and questions under names, with the changes that can be taken back and made again."""

    def __init__(self):
        self.decided = 0
        self.kept = 0
        self._numbers = {}
        self._questions = {}
        self._answers = {}
        # Each change tells whether it is one of a number, its name, and what it found and left there, None for nothing.
        self._done = []
        self._undone = []

    def set_number(self, name, number):
        """Set a number under a name."""
        check_not_zero(number)
        self._change(True, name, tuple(number))

    def make(self, name, deed, names):
        """Make a number under a name of the numbers with the names of a list."""
        numbers = self._numbers_of(names)
        if _DEEDS.get(deed) != len(numbers):
            raise InvalidQuestion("no deed has this name and takes so many numbers")
        made = _made(deed, numbers)
        check_not_zero(made)
        self._change(True, name, made)

    def remove_number(self, name):
        """Remove the number of a name, if no question is about it."""
        self.number(name)
        if any([name in names for _, names in self._questions.values()]):
            raise NameInUse(name)
        self._change(True, name, None)

    def ask(self, name, kind, names):
        """Ask a question under a name, about the numbers with the names of a list."""
        self._numbers_of(names)
        if KINDS.get(kind) != len(names):
            raise InvalidQuestion("no question is of this kind and about so many numbers")
        self._change(False, name, (kind, tuple(names)))

    def drop(self, name):
        """Drop the question of a name."""
        self.question(name)
        self._change(False, name, None)

    def undo(self):
        """Take back the last change that is not taken back."""
        if not self._done:
            raise NothingToUndo("there is no change to take back")
        change = self._done.pop()
        of_number, name, found, _ = change
        self._put(of_number, name, found)
        self._undone.append(change)

    def redo(self):
        """Make the change again that was taken back last."""
        if not self._undone:
            raise NothingToRedo("there is no change to make again")
        change = self._undone.pop()
        of_number, name, _, left = change
        self._put(of_number, name, left)
        self._done.append(change)

    def change_all(self, changes):
        """Make several changes one after another, or none of them if one raises an error."""
        numbers, questions = dict(self._numbers), dict(self._questions)
        done, undone = list(self._done), list(self._undone)
        complete = False
        try:
            for change in changes:
                self._make_change(change)
            complete = True
        finally:
            if not complete:
                self._numbers, self._questions = numbers, questions
                self._done, self._undone = done, undone

    def number_names(self):
        """Return the names of the numbers, ascending."""
        return sorted(self._numbers)

    def question_names(self):
        """Return the names of the questions, ascending."""
        return sorted(self._questions)

    def number(self, name):
        """Return the number of a name."""
        if name not in self._numbers:
            raise UnknownName(name)
        return self._numbers[name]

    def question(self, name):
        """Return the kind of the question of a name, and the names of the numbers that it is about."""
        if name not in self._questions:
            raise UnknownName(name)
        return self._questions[name]

    def answer(self, name):
        """Return the answer of the question of a name."""
        kind, names = self.question(name)
        numbers = tuple(self._numbers_of(names))
        key = (kind, numbers)
        if key in self._answers:
            self.kept += 1
        else:
            self._answers[key] = decide(kind, numbers)
            self.decided += 1
        return self._answers[key]

    def answers(self):
        """Return the names of all questions, ascending, each with the answer."""
        return [(name, self.answer(name)) for name in self.question_names()]

    def _numbers_of(self, names):
        return [self.number(name) for name in names]

    def _make_change(self, change):
        word, *arguments = change
        changes = {
            "set_number": self.set_number, "make": self.make, "remove_number": self.remove_number,
            "ask": self.ask, "drop": self.drop,
        }
        make_change = changes[word]
        make_change(*arguments)

    def _change(self, of_number, name, left):
        found = self._book(of_number).get(name)
        self._done.append((of_number, name, found, left))
        self._undone.clear()
        self._put(of_number, name, left)

    def _put(self, of_number, name, worth):
        book = self._book(of_number)
        if worth is None:
            del book[name]
        else:
            book[name] = worth

    def _book(self, of_number):
        return self._numbers if of_number else self._questions


def _made(deed, numbers):
    if deed == "product":
        return product(numbers[0], numbers[1])
    if deed == "sum":
        return added(numbers[0], numbers[1])
    return conjugate(numbers[0])
