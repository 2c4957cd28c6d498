"""Papers mended deed by deed, and hands that play by them or by wishes."""

from linkorcut.deeds import done_by, other_side
from linkorcut.errors import NoPaper, Over
from linkorcut.nets import names_of, own_net
from linkorcut.outcomes import outcome
from linkorcut.papers import stands
from linkorcut.parts import winner_of
from linkorcut.rules import rule_of


def mended(net, side, paper, taken):
    """The answer to a tie that the other side took, or to None, and the paper behind both."""
    if not stands(net, side, paper):
        raise NoPaper()
    behind = behind_taken(net, side, taken)
    if taken in paper[0]:
        lost = but_for(paper[0], taken)
        answer = least_beyond(rule_of(side, behind), lost, paper[1])
        return (answer, (lost, but_for(paper[1], answer)))
    if taken in paper[1]:
        lost = but_for(paper[1], taken)
        answer = least_beyond(rule_of(side, behind), lost, paper[0])
        return (answer, (but_for(paper[0], answer), lost))
    return mended_unhurt(behind, side, paper)


def behind_taken(net, side, taken):
    """The net behind the other side's taking of a tie, or of None."""
    if taken is None:
        return net
    return done_by(net, other_side(side), taken)


def but_for(row, name):
    """The names of a row without one of them."""
    return [each for each in row if each != name]


def least_beyond(rule, row, other):
    """The least name of another row that a row does not reach."""
    reached = rule.reach(row)
    return min([name for name in other if name not in reached])


def mended_unhurt(net, side, paper):
    """The answer, and the paper behind it, where the other side took none of the paper's ties."""
    if len(paper[0]) == 0:
        return (min(names_of(net), default=None), ([], []))
    answer = min(paper[0])
    rule = rule_of(side, done_by(net, side, answer))
    return (answer, (but_for(paper[0], answer), but_for(paper[1], least_spare(rule, paper[1]))))


def least_spare(rule, row):
    """The least name without which a row reaches as much as with it."""
    reached = rule.reach(row)
    return min([name for name in row if rule.reach(but_for(row, name)) == reached])


def opened(net, side, begins):
    """The tie that a side which wins takes at first, or None, and its paper then."""
    told = outcome(net)
    if told[0] == side:
        if begins and winner_of(net) is None:
            return mended(net, side, told[1], None)
        return (None, told[1])
    if told[0] == "first" and begins:
        return told[1] if side == "linker" else told[2]
    raise NoPaper()


class PaperHand:
    """A hand of a side that wins a net, playing by its paper."""

    def __init__(self, net, side, begins):
        step = opened(net, side, begins)
        self.side = side
        self.first = step[0]
        self.rows = step[1]
        self.net = own_net(net)
        if self.first is not None:
            self.net = done_by(net, side, self.first)
        self.untold = begins

    def opening(self):
        """The tie that it took when it was made, or None."""
        return self.first

    def answer(self, taken):
        """Its answer to the tie that the other side took."""
        won = winner_of(self.net)
        if won is not None:
            raise Over(won)
        # The refusal of a tie that is not there comes from here, ahead of any change.
        step = mended(self.net, self.side, self.rows, taken)
        self.net = done_by(behind_taken(self.net, self.side, taken), self.side, step[0])
        self.rows = step[1]
        return step[0]

    def paper(self):
        """Its paper behind all deeds."""
        return (list(self.rows[0]), list(self.rows[1]))

    def lying(self):
        """The net behind all deeds."""
        return own_net(self.net)

    def next_tie(self, taken):
        """Its opening when it begins and is asked at first, else its answer."""
        if self.untold:
            self.untold = False
            return self.first
        return self.answer(taken)


def paper_hand(net, side, begins):
    """A hand for one play that goes by the paper of a side."""
    kept = PaperHand(net, side, begins)

    def hand(lies, taken):
        return kept.next_tie(taken)

    return hand


def wish_hand(numbers):
    """A hand that takes the first of its numbers that is there, else the least tie."""
    wishes = list(numbers)

    def hand(lies, taken):
        names = names_of(lies)
        for wish in wishes:
            if wish in names:
                return wish
        return min(names)

    return hand
