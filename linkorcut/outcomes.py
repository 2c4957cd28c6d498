"""Who wins a net, told with papers."""

from linkorcut.blocks import paper_of
from linkorcut.deeds import done_by
from linkorcut.nets import names_of
from linkorcut.rules import rule_of


def outcome(net):
    """The side that wins whoever begins, with its paper; or "first", with a tie and a paper for each side."""
    for side in ("linker", "cutter"):
        paper = paper_of(rule_of(side, net))
        if paper is not None:
            return (side, paper)
    return ("first", first_win(net, "linker"), first_win(net, "cutter"))


def first_win(net, side):
    """The least tie behind which a side has a paper, with that paper."""
    for tie in names_of(net):
        paper = paper_behind(net, side, tie)
        if paper is not None:
            return (tie, paper)
    return None


def paper_behind(net, side, tie):
    """A paper of a side in the net behind its taking of a tie, or None."""
    return paper_of(rule_of(side, done_by(net, side, tie)))


def winner(net, begins):
    """The side that wins a net where one side begins."""
    word = outcome(net)[0]
    if word == "first":
        return begins
    return word


def wins(net, side):
    """The sorted list of the ties with which a side wins if it begins with them."""
    return [tie for tie in names_of(net) if paper_behind(net, side, tie) is not None]
