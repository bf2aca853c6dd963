"""A desk that is used by lines of text."""

from turnprimes.commands import is_command, split_words
from turnprimes.desk import Desk
from turnprimes.errors import InvalidNumber, InvalidQuestion, NameInUse, NothingToRedo, NothingToUndo, UnknownName
from turnprimes.notation import parts_line


class Session:
    """A desk, and the lines that commands on it answer."""

    def __init__(self):
        self.desk = Desk()

    def run(self, text):
        """Do the lines of the text in order, and return all lines that they answer."""
        told = []
        for place, line in enumerate(text.split("\n"), start=1):
            words = split_words(line)
            if words:
                told.extend(self._lines_of(place, words))
        return told

    def _lines_of(self, place, words):
        if not is_command(words):
            return [f"line {place}: invalid command"]
        try:
            return self._do(words[0], words[1:])
        except UnknownName as unknown:
            fault = f"unknown name {unknown.name}"
        except NameInUse as used:
            fault = f"name in use {used.name}"
        except InvalidNumber:
            fault = "invalid number"
        except InvalidQuestion:
            fault = "invalid question"
        except NothingToUndo:
            fault = "nothing to undo"
        except NothingToRedo:
            fault = "nothing to redo"
        return [f"line {place}: {fault}"]

    def _do(self, command, rest):
        """Do a command that has the right form, and return the lines that it answers."""
        if command == "answer":
            return [_answer_line(rest[0], self.desk.answer(rest[0]))]
        if command == "answers":
            return [_answer_line(name, answer) for name, answer in self.desk.answers()]
        if command == "print":
            return [parts_line(rest[0] + ":", self.desk.number(rest[0]))]
        if command == "numbers":
            return [" ".join(["numbers:"] + self.desk.number_names())]
        if command == "questions":
            return [" ".join(["questions:"] + self.desk.question_names())]
        self._change(command, rest)
        return ["ok"]

    def _change(self, command, rest):
        if command == "set":
            self.desk.set_number(rest[0], [int(word) for word in rest[1:]])
        elif command == "ask":
            self.desk.ask(rest[0], rest[1], rest[2:])
        elif command == "remove":
            self.desk.remove_number(rest[0])
        elif command == "drop":
            self.desk.drop(rest[0])
        elif command == "undo":
            self.desk.undo()
        elif command == "redo":
            self.desk.redo()
        else:
            # What is left makes a number, and its command is the name of the deed.
            self.desk.make(rest[0], command, rest[1:])


def _answer_line(name, answer):
    word, *values = answer
    return name + ": " + parts_line(word, values)
