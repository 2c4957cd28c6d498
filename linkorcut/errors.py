"""The refusals of the program, one class each."""


class NetError(ValueError):
    """Any refusal."""


class NoNumber(NetError):
    """A number below 0 or of more than sixty figures."""

    def __init__(self, number):
        self.number = number


class Twice(NetError):
    """The name of a tie that an earlier tie has."""

    def __init__(self, tie):
        self.tie = tie


class TooMany(NetError):
    """More ties or more places than a net may have."""


class BadRow(NetError):
    """The number, from 0, of a text that is not written as a net's."""

    def __init__(self, row):
        self.row = row


class NotThere(NetError):
    """A number that no tie of the net has as its name."""

    def __init__(self, tie):
        self.tie = tie


class NoPaper(NetError):
    """A paper that does not stand, or a side that has none."""


class Over(NetError):
    """A play that is over, and the side that won it."""

    def __init__(self, winner):
        self.winner = winner


class OtherTurn(NetError):
    """A deed out of turn, and the side whose turn it is."""

    def __init__(self, side):
        self.side = side


class NoDeed(NetError):
    """No deed to take back, or none to do again."""


class TooBig(NetError):
    """A net of too many ties to go through all its plays."""


class BadLine(NetError):
    """A line that a desk does not know."""
