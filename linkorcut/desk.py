"""A desk: a book of a net, asked by lines of text."""

from linkorcut.books import Book
from linkorcut.errors import BadLine
from linkorcut.outcomes import outcome, wins
from linkorcut.texts import is_written, read, row_of, shown


class Desk:
    """A book of the net that rows of text tell."""

    def __init__(self, rows):
        self.net = read(rows)
        self.book = Book(self.net, "linker")

    def asked(self, line):
        """The texts that answer a line."""
        words = line.split(" ")
        if len(words) == 1:
            return self.asked_alone(line)
        if len(words) == 2 and words[0] == "take" and is_written(words[1]):
            return shown(self.book.take(int(words[1])))
        if len(words) == 2 and words[0] == "start" and words[1] in ("linker", "cutter"):
            self.book = Book(self.net, words[1])
            return shown(self.net)
        raise BadLine()

    def asked_alone(self, word):
        """The texts that answer a line of one word."""
        if word == "back":
            return shown(self.book.back())
        if word == "again":
            return shown(self.book.again())
        if word == "net":
            return shown(self.book.lying())
        if word == "deeds":
            return [row_of(side, [tie]) for side, tie in self.book.deeds()]
        if word == "turn":
            return [turn_text(self.book)]
        if word == "outcome":
            return [outcome(self.book.lying())[0]]
        if word == "wins":
            return [wins_text(self.book)]
        raise BadLine()


def turn_text(book):
    """The side whose turn it is, or that it is over, and who won."""
    won = book.won()
    if won is None:
        return book.turn()
    return f"over {won}"


def wins_text(book):
    """The ties with which the side whose turn it is wins, or a point."""
    if book.won() is not None:
        return "."
    found = wins(book.lying(), book.turn())
    if len(found) == 0:
        return "."
    return " ".join([str(tie) for tie in found])
