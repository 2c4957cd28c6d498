"""Who wins a small net, by going through all its plays."""

from linkorcut.deeds import done_by, other_side
from linkorcut.errors import TooBig
from linkorcut.nets import names_of
from linkorcut.parts import winner_of

MOST_TIES_TRIED = 7


def tried(net, begins):
    """The winner by all plays where a side begins."""
    if len(net[1]) > MOST_TIES_TRIED:
        raise TooBig()
    return best_of(net, begins)


def best_of(net, side):
    """The winner where a side takes a tie next and both play as well as can be."""
    won = winner_of(net)
    if won is not None:
        return won
    other = other_side(side)
    for tie in names_of(net):
        if best_of(done_by(net, side, tie), other) == side:
            return side
    return other


def all_plays(net):
    """The word of the outcome by all plays."""
    word = tried(net, "linker")
    if tried(net, "cutter") == word:
        return word
    return "first"
