"""Books: plays whose deeds can be taken back and done again."""

from linkorcut.errors import NoDeed
from linkorcut.nets import own_net
from linkorcut.plays import Play


class Book:
    """A play, and the ties of the deeds taken back, the last one last."""

    def __init__(self, net, begins):
        self.first_net = own_net(net)
        self.begins = begins
        self.play = Play(net, begins)
        self.undone = []

    def lying(self):
        """The net behind all deeds."""
        return self.play.lying()

    def turn(self):
        """The side whose turn it is."""
        return self.play.turn()

    def won(self):
        """The side that has won, or None while the play is not over."""
        return self.play.won()

    def deeds(self):
        """The list of the deeds done, from the first on."""
        return self.play.deeds()

    def take(self, tie):
        """Takes a tie for the side whose turn it is, and forgets the undone deeds."""
        net = self.play.deed(self.play.turn(), tie)
        self.undone = []
        return net

    def back(self):
        """Takes the last deed back."""
        done = self.play.deeds()
        if len(done) == 0:
            raise NoDeed()
        # Played anew from the first net: a net that lies does not tell what was drawn together.
        play = Play(self.first_net, self.begins)
        for side, tie in done[:-1]:
            play.deed(side, tie)
        self.play = play
        self.undone.append(done[-1][1])
        return self.lying()

    def again(self):
        """Does the last deed taken back again."""
        if len(self.undone) == 0:
            raise NoDeed()
        return self.play.deed(self.play.turn(), self.undone.pop())
