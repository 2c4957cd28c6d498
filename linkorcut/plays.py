"""Plays, deed by deed, and the referee who lets two hands play."""

from linkorcut.deeds import done_by, other_side
from linkorcut.errors import OtherTurn, Over
from linkorcut.nets import own_net
from linkorcut.parts import winner_of


class Play:
    """A net that lies, the side whose turn it is, and the deeds done."""

    def __init__(self, net, begins):
        self.net = own_net(net)
        self.side = begins
        self.done = []

    def lying(self):
        """The net behind all deeds."""
        return own_net(self.net)

    def turn(self):
        """The side whose turn it is."""
        return self.side

    def won(self):
        """The side that has won, or None while it is not over."""
        return winner_of(self.net)

    def deed(self, side, tie):
        """Does a side's deed, and tells the net behind it."""
        winner = self.won()
        if winner is not None:
            raise Over(winner)
        if side != self.side:
            raise OtherTurn(self.side)
        # The refusal of a tie that is not there comes from here, ahead of any change.
        self.net = done_by(self.net, side, tie)
        self.side = other_side(side)
        self.done.append((side, tie))
        return self.lying()

    def deeds(self):
        """The list of the deeds done, from the first on."""
        return [(side, tie) for side, tie in self.done]


def refereed(net, begins, linker, cutter):
    """The winner of a net that two hands play, and the deeds of both."""
    play = Play(net, begins)
    taken = None
    while play.won() is None:
        side = play.turn()
        hand = linker if side == "linker" else cutter
        tie = hand(play.lying(), taken)
        play.deed(side, tie)
        taken = tie
    return (play.won(), play.deeds())
