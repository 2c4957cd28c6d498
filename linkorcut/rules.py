"""Rules: the ranks of rows of the ties of a net and of its thought tie."""

from linkorcut.nets import names_of, own_net, places_of
from linkorcut.parts import firsts_by

THOUGHT = -1


class Rule:
    """The plain rule: the rank of a row is the number of its names."""

    def __init__(self, net):
        self.net = own_net(net)
        self.places = places_of(self.net)
        self.ends = {THOUGHT: self.net[0]}
        for name, one, other in self.net[1]:
            self.ends[name] = (one, other)

    def __eq__(self, other):
        return isinstance(other, Rule) and self.kind() == other.kind() and self.net == other.net

    def kind(self):
        """A word for the class, as rules of two classes are not equal."""
        return "plain"

    def ties(self):
        """The sorted list of the thought tie and the ties of the net."""
        return [THOUGHT] + names_of(self.net)

    def rank(self, row):
        """The rank of a row."""
        return len(row)

    def free(self, row):
        """Whether the rank of a row is the number of its names."""
        return self.rank(row) == len(row)

    def reach(self, row):
        """The sorted list of the ties with which the row has no greater rank."""
        rank = self.rank(row)
        return [tie for tie in self.ties() if tie in row or self.rank(row + [tie]) <= rank]

    def tree_rank(self, row):
        """The number of places less the number of parts by a row."""
        firsts = firsts_by(self.places, [self.ends[tie] for tie in row])
        return len([place for place in self.places if firsts[place] != place])


class ByTrees(Rule):
    """The linker's rule: a row without a round is free."""

    def kind(self):
        """A word for the class."""
        return "trees"

    def rank(self, row):
        """The rank of a row by trees."""
        return self.tree_rank(row)


class ByRest(Rule):
    """The cutter's rule: a row without which nothing falls into more parts is free."""

    def __init__(self, net):
        Rule.__init__(self, net)
        self.whole = self.tree_rank(self.ties())

    def kind(self):
        """A word for the class."""
        return "rest"

    def rank(self, row):
        """The rank of a row by rest."""
        rest = [tie for tie in self.ties() if tie not in row]
        return len(row) - self.whole + self.tree_rank(rest)


def rule_of(side, net):
    """The rule of a side."""
    if side == "linker":
        return ByTrees(net)
    return ByRest(net)
