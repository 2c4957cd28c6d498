"""Parts of a net by a row of ties, linked and parted nets, bridges."""

from linkorcut.nets import ends_of, names_of, places_of


def firsts_by(places, pairs):
    """Of each place the least place of its part, where the pairs join places."""
    firsts = {}
    for place in places:
        firsts[place] = place
    for one, other in pairs:
        kept = min(firsts[one], firsts[other])
        gone = max(firsts[one], firsts[other])
        for place in places:
            if firsts[place] == gone:
                firsts[place] = kept
    return firsts


def parts_by(net, row):
    """The parts by a row of ties, sorted lists of places, sorted."""
    places = places_of(net)
    firsts = firsts_by(places, [ends_of(net, tie) for tie in row])
    parts = {}
    for place in places:
        parts.setdefault(firsts[place], []).append(place)
    return sorted(parts.values())


def is_linked(net):
    """Whether the poles are the same place."""
    return net[0][0] == net[0][1]


def is_parted(net):
    """Whether no ties lead from the one pole to the other."""
    firsts = firsts_by(places_of(net), [tie[1:] for tie in net[1]])
    return firsts[net[0][0]] != firsts[net[0][1]]


def winner_of(net):
    """The side that has won a net as it lies, or None."""
    if is_linked(net):
        return "linker"
    if is_parted(net):
        return "cutter"
    return None


def bridges(net):
    """The sorted list of the ties without which there is one part more."""
    names = names_of(net)
    many = len(parts_by(net, names))
    found = []
    for name in names:
        others = [other for other in names if other != name]
        # Of the same net, not of the one without the tie: places that only it meets must count as parts.
        if len(parts_by(net, others)) == many + 1:
            found.append(name)
    return found
