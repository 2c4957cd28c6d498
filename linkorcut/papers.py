"""Papers and outcomes looked at."""

from linkorcut.blocks import paper_of
from linkorcut.deeds import done_by
from linkorcut.nets import names_of
from linkorcut.rules import THOUGHT, rule_of

# The words of the three shapes of an outcome, and of how many things each is.
SHAPES = {"linker": 2, "cutter": 2, "first": 3}


def stands(net, side, paper):
    """Whether a paper of a side is one in a net."""
    ones = paper[0]
    others = paper[1]
    if not is_row(net, ones) or not is_row(net, others):
        return False
    if any([name in others for name in ones]):
        return False
    rule = rule_of(side, net)
    if not rule.free(ones) or not rule.free(others):
        return False
    reached = rule.reach(ones)
    return THOUGHT in reached and reached == rule.reach(others)


def is_row(net, row):
    """Whether a row has names of ties of the net alone, sorted, none twice."""
    names = names_of(net)
    return row == sorted(set(row)) and all([name in names for name in row])


def outcome_stands(net, told):
    """Whether an outcome is one of a net, whichever ties and papers it tells."""
    if SHAPES.get(told[0]) != len(told):
        return False
    if told[0] == "first":
        return has_no_paper(net) and stands_behind(net, "linker", told[1]) and stands_behind(net, "cutter", told[2])
    return stands(net, told[0], told[1])


def has_no_paper(net):
    """Whether neither side's rule has a paper in a net."""
    return paper_of(rule_of("linker", net)) is None and paper_of(rule_of("cutter", net)) is None


def stands_behind(net, side, step):
    """Whether a step's tie is one of the net and its paper stands behind the side's taking of it."""
    if step[0] not in names_of(net):
        return False
    return stands(done_by(net, side, step[0]), side, step[1])
