"""Ties taken out of a net, and ties drawn together."""

from linkorcut.nets import ends_of, own_net, put_in_order


def without(net, tie):
    """The list of the ties but for one, which has to be there."""
    # Asked for its refusal alone: NotThere where no tie has that name.
    ends_of(net, tie)
    return [each for each in net[1] if each[0] != tie]


def taken_out(net, tie):
    """The net without a tie."""
    return put_in_order(net[0], without(net, tie))


def drawn(net, tie):
    """The net in which the ends of a tie are one place, called by the lesser number."""
    ends = ends_of(net, tie)
    places = {ends[1]: ends[0]}
    poles = (places.get(net[0][0], net[0][0]), places.get(net[0][1], net[0][1]))
    ties = []
    for name, one, other in without(net, tie):
        ties.append((name, places.get(one, one), places.get(other, other)))
    return put_in_order(poles, ties)


def done_by(net, side, tie):
    """The net behind a side's taking of a tie."""
    if side == "linker":
        return drawn(net, tie)
    return taken_out(net, tie)


def other_side(side):
    """The side that a side plays against."""
    if side == "linker":
        return "cutter"
    return "linker"


def all_out(net, row):
    """The net without the ties of a row."""
    # Made anew at first, so that of the empty row, too, a net is told that is the asker's own.
    left = own_net(net)
    for tie in row:
        left = taken_out(left, tie)
    return left


def all_drawn(net, row):
    """The net in which the ties of a row are drawn together."""
    left = own_net(net)
    for tie in row:
        left = drawn(left, tie)
    return left
