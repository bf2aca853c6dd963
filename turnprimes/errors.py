"""The errors that the program raises."""


class TurnprimesError(ValueError):
    """The base class of all errors of the program."""


class InvalidNumber(TurnprimesError):
    """Something is not the doubled parts of a number."""


class InvalidTurn(TurnprimesError):
    """Something is no turn."""


class InvalidWord(TurnprimesError):
    """Something is no word of letters, or none of the kind that is asked for."""


class InvalidQuestion(TurnprimesError):
    """Something is asked that has no answer, or is out of the bounds."""


class NothingToUndo(TurnprimesError):
    """There is no change to take back."""


class NothingToRedo(TurnprimesError):
    """There is no change to make again."""


class UnknownName(TurnprimesError):
    """Nothing stands under the name."""

    def __init__(self, name):
        TurnprimesError.__init__(self, f"unknown name {name}")
        self.name = name


class NameInUse(TurnprimesError):
    """A question is about the number of the name."""

    def __init__(self, name):
        TurnprimesError.__init__(self, f"name in use {name}")
        self.name = name


class InvalidNotation(TurnprimesError):
    """A text is not the written form of a list of numbers."""

    def __init__(self, line):
        TurnprimesError.__init__(self, f"line {line} cannot stand there")
        self.line = line


class InvalidPaper(TurnprimesError):
    """A text is not the written form of a row of factors."""

    def __init__(self, line):
        TurnprimesError.__init__(self, f"line {line} cannot stand there")
        self.line = line


class TooMany(TurnprimesError):
    """There are more of what is asked for than the limit."""

    def __init__(self, limit):
        TurnprimesError.__init__(self, f"more than {limit}")
        self.limit = limit
