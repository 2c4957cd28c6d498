"""Nets for the tests, and what the document tells of them reckoned the long way, without the package."""

import copy
import itertools

SIXTY = 10 ** 60 - 1
THOUGHT = -1

# A loop at 4, a loop at the pole 1, twins between the poles, and place 6 away from all others.
LOOPS_AND_TWINS = ((1, 3), [(0, 3, 4), (2, 1, 3), (4, 1, 1), (7, 1, 3), (10, 4, 4), (11, 6, 6)])
# Two rounds with a bridge between, and a tie that hangs on.
TWO_ROUNDS = ((0, 5), [(1, 0, 1), (2, 1, 2), (3, 0, 2), (4, 2, 3), (5, 3, 4), (6, 4, 5), (7, 3, 5), (8, 5, 9)])
GREAT = ((SIXTY - 1, SIXTY), [(3, SIXTY - 2, SIXTY), (SIXTY - 1, SIXTY - 2, SIXTY - 1), (SIXTY, 0, SIXTY)])
EVERY_PAIR_OF_FOUR = ((0, 3), [(0, 0, 1), (1, 0, 2), (2, 0, 3), (3, 1, 2), (4, 1, 3), (5, 2, 3)])
FULL = ((0, 7), [
    (0, 0, 1), (1, 0, 2), (2, 1, 2), (3, 1, 3), (4, 2, 3), (5, 3, 4), (6, 3, 5), (7, 4, 5), (8, 4, 6), (9, 5, 6),
    (10, 6, 7), (11, 5, 7), (12, 2, 5), (13, 0, 7)])
NO_TIES = ((2, 5), [])
ONE_PLACE = ((4, 4), [])
SAME_POLES = ((2, 2), [(0, 2, 3), (1, 3, 3), (5, 2, 3), (6, 2, 2)])
POLES_UNMET = ((0, 9), [(3, 4, 5), (4, 5, 6), (8, 4, 6)])

NAMED = [
    LOOPS_AND_TWINS, TWO_ROUNDS, GREAT, EVERY_PAIR_OF_FOUR, FULL, NO_TIES, ONE_PLACE, SAME_POLES, POLES_UNMET]


def small_nets():
    """All nets of at most three ties on three places, with several poles."""
    pairs = [(0, 0), (0, 1), (0, 2), (1, 1), (1, 2), (2, 2)]
    nets = []
    for poles in [(0, 1), (1, 2), (1, 1), (2, 3), (5, 5)]:
        for many in range(4):
            for ends in itertools.combinations_with_replacement(pairs, many):
                nets.append((poles, [(2 * at, one, other) for at, (one, other) in enumerate(ends)]))
    return nets


def figures(seed):
    """Numbers without end that look like chance but are the same each time."""
    while True:
        seed = (seed * 6364136223846793005 + 1442695040888963407) % 2 ** 64
        yield seed >> 33


def net_by(seed, ties, places):
    """A net of so many ties on at most so many places, another one for each seed."""
    chance = figures(seed)
    poles = sorted([next(chance) % places, next(chance) % places])
    names = sorted([17 * name + next(chance) % 17 for name in range(ties)])
    made = []
    for name in names:
        ends = sorted([next(chance) % places, next(chance) % places])
        made.append((name, ends[0], ends[1]))
    return (tuple(poles), made)


def nets_by(seeds, ties, places):
    return [net_by(seed, ties, places) for seed in range(seeds)]


def mixed(row, seed):
    """The same names in another order."""
    chance = figures(seed)
    return [pair[1] for pair in sorted([(next(chance), name) for name in row])]


def names(net):
    return [tie[0] for tie in net[1]]


def with_thought(net):
    return [THOUGHT] + names(net)


def places(net):
    found = set(net[0])
    for name, one, other in net[1]:
        found |= {one, other}
    return sorted(found)


def rows_of(ties):
    """All rows of such names, each sorted."""
    rows = []
    for many in range(len(ties) + 1):
        rows.extend([list(row) for row in itertools.combinations(ties, many)])
    return rows


def pairs(net, row):
    ends = {THOUGHT: net[0]}
    for name, one, other in net[1]:
        ends[name] = (one, other)
    return [ends[tie] for tie in row]


def met_from(place, steps):
    """The sorted list of the places that one can go to by such steps."""
    met = {place}
    grown = True
    while grown:
        grown = False
        for one, other in steps:
            if (one in met) != (other in met):
                met |= {one, other}
                grown = True
    return sorted(met)


def parts(net, row):
    """The parts by a row, also by one with the thought tie, by walking from each place."""
    steps = pairs(net, row)
    return sorted(set([tuple(met_from(place, steps)) for place in places(net)]))


def tree_rank(net, row):
    return len(places(net)) - len(parts(net, row))


def rest_rank(net, row):
    everything = with_thought(net)
    rest = [tie for tie in everything if tie not in row]
    return len(row) - tree_rank(net, everything) + tree_rank(net, rest)


def plain_rank(net, row):
    return len(row)


RANKS = {"linker": tree_rank, "cutter": rest_rank}
SIDES = ["linker", "cutter"]


def other(side):
    return SIDES[1 - SIDES.index(side)]


def free(net, counted, row):
    return counted(net, row) == len(row)


def reach(net, counted, row):
    """What a row reaches, by a way of counting ranks."""
    rank = counted(net, row)
    return [tie for tie in with_thought(net) if tie in row or counted(net, row + [tie]) <= rank]


def is_paper(net, side, paper):
    """Whether a paper of a side stands, word by word."""
    counted = RANKS[side]
    for row in paper:
        if [name for name in row if name not in names(net)] or row != sorted(set(row)):
            return False
    ones, others = paper
    if set(ones) & set(others) or not free(net, counted, ones) or not free(net, counted, others):
        return False
    return reach(net, counted, ones) == reach(net, counted, others) and THOUGHT in reach(net, counted, ones)


def drawn(net, row):
    """The net with the ties of a row drawn together, each place called by the least one of its part."""
    first = {place: part[0] for part in parts(net, row) for place in part}
    ties = []
    for name, one, other_end in net[1]:
        if name not in row:
            ties.append((name,) + tuple(sorted([first[one], first[other_end]])))
    return (tuple(sorted([first[net[0][0]], first[net[0][1]]])), ties)


def behind(net, side, tie):
    """The net behind a side's taking of a tie."""
    if side == "linker":
        return drawn(net, [tie])
    return (net[0], [each for each in net[1] if each[0] != tie])


def won(net):
    """The side that has won a net as it lies, or None."""
    if net[0][0] == net[0][1]:
        return "linker"
    if net[0][1] not in met_from(net[0][0], pairs(net, names(net))):
        return "cutter"
    return None


def played(net, begins, seen=None):
    """The winner where a side begins, all plays gone through."""
    seen = {} if seen is None else seen
    key = (net[0], tuple(net[1]), begins)
    if key not in seen:
        seen[key] = won(net)
        if seen[key] is None:
            found = [played(behind(net, begins, tie), other(begins), seen) for tie in names(net)]
            seen[key] = begins if begins in found else other(begins)
    return seen[key]


def played_word(net):
    """The word of the outcome, all plays gone through."""
    seen = {}
    winners = [played(net, side, seen) for side in SIDES]
    return winners[0] if winners[0] == winners[1] else "first"


def drawn_answers(seed):
    """A hand without a plan, the same each time."""
    chance = figures(seed)
    return lambda net, taken: names(net)[next(chance) % len(net[1])]


def referee(net, begins, hands):
    """Two hands play to the end; tells the winner and the deeds."""
    side, taken, deeds = begins, None, []
    while won(net) is None:
        taken = hands[side](copy.deepcopy(net), taken)
        net = behind(net, side, taken)
        deeds.append((side, taken))
        side = other(side)
    return won(net), deeds


def lists(told):
    """All lists and tuples within what is told."""
    if not isinstance(told, (list, tuple)):
        return []
    found = [told]
    for each in told:
        found.extend(lists(each))
    return found


def steps(counts):
    """Steps one behind another from pole to pole, each of so many ties side by side."""
    ties = []
    for place, count in enumerate(counts):
        ties.extend([(place, place + 1)] * count)
    return ((0, len(counts)), [(3 * name + 1, one, end) for name, (one, end) in enumerate(ties)])


def word_of_steps(counts):
    """With a spare tie in each step the linker needs none; of two steps without one the cutter always gets one."""
    bare = len([count for count in counts if count == 1])
    if 0 in counts or bare > 1:
        return "cutter"
    return "first" if bare == 1 else "linker"


def strands(counts):
    """Strands side by side from pole to pole, each of so many ties one behind another."""
    ties, place = [], 2
    for count in counts:
        ends = [0] + list(range(place, place + count - 1)) + [1]
        place += count - 1
        ties.extend(zip(ends, ends[1:]))
    return ((0, 1), [(2 * name, min(pair), max(pair)) for name, pair in enumerate(ties)])


def word_of_strands(counts):
    """Strands of one tie are what counts: the others the cutter can always part in answer."""
    return ["cutter", "first", "linker"][min(counts.count(1), 2)]
