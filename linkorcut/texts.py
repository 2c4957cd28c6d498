"""Nets written as texts, and such texts read."""

from linkorcut.errors import BadRow
from linkorcut.nets import net_of

FIGURES = "0123456789"
MOST_FIGURES = 60


def shown(net):
    """The texts of a net: its poles, and behind them its ties in order."""
    rows = [row_of("poles", net[0])]
    for tie in net[1]:
        rows.append(row_of("tie", tie))
    return rows


def row_of(word, numbers):
    """A text of a word and of numbers, with one blank between."""
    return " ".join([word] + [str(number) for number in numbers])


def read(rows):
    """The net that such texts tell, or a refusal."""
    if len(rows) == 0:
        raise BadRow(0)
    poles = numbers_at(rows, 0, "poles", 2)
    ties = [numbers_at(rows, at, "tie", 3) for at in range(1, len(rows))]
    return net_of(poles, ties)


def numbers_at(rows, at, word, many):
    """The tuple of so many numbers behind the word in the text at that place."""
    words = rows[at].split(" ")
    if words[0] != word or len(words) != many + 1:
        raise BadRow(at)
    if not all([is_written(text) for text in words[1:]]):
        raise BadRow(at)
    return tuple([int(text) for text in words[1:]])


def is_written(text):
    """Whether a text is a number as nets are written with."""
    if text == "" or len(text) > MOST_FIGURES:
        return False
    if text[0] == "0" and text != "0":
        return False
    # Not isdigit: that takes the figures of other scripts, too.
    return all([sign in FIGURES for sign in text])
