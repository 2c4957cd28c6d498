"""Rows thinned until they reach alike; the paper of a rule, and the lack that shows that there is none."""

import copy
import itertools
import unittest

import samples
from linkorcut.blocks import lack_of, paper_of, thinned
from linkorcut.packing import packed
from linkorcut.rules import ByRest, ByTrees, Rule, rule_of

RULES = [(Rule, samples.plain_rank), (ByTrees, samples.tree_rank), (ByRest, samples.rest_rank)]
TRIANGLE = ((0, 2), [(0, 0, 1), (1, 1, 2), (2, 0, 2)])


def great_nets():
    return [samples.FULL] + samples.nets_by(40, 14, 8) + samples.nets_by(20, 14, 6)


def free_pairs(net, counted, ties):
    """All pairs of free rows of some ties with no name in both, each row sorted."""
    free = {tuple(row) for row in samples.rows_of(ties) if samples.free(net, counted, row)}
    pairs = []
    for sorts in itertools.product((0, 1, 2), repeat=len(ties)):
        ones = tuple([name for name, sort in zip(ties, sorts) if sort == 1])
        others = tuple([name for name, sort in zip(ties, sorts) if sort == 2])
        if ones in free and others in free:
            pairs.append((list(ones), list(others)))
    return pairs


def thinned_by(net, counted, pair, order):
    """A pair thinned one name after another, of those due always the first one by some order."""
    rows = [list(pair[0]), list(pair[1])]
    while True:
        due = []
        for at in (0, 1):
            reached = samples.reach(net, counted, rows[1 - at])
            due.extend([(order.index(name), at, name) for name in rows[at] if name not in reached])
        if due == []:
            return (sorted(rows[0]), sorted(rows[1]))
        place, at, name = min(due)
        rows[at].remove(name)


def has_paper(net, side):
    """Whether any two rows at all are a paper of a side."""
    counted = samples.RANKS[side]
    for ones, others in free_pairs(net, counted, samples.names(net)):
        reached = samples.reach(net, counted, ones)
        if -1 in reached and reached == samples.reach(net, counted, others):
            return True
    return False


def is_lack(net, side, lack):
    """Whether a lack shows what it is to show, word by word."""
    counted = samples.RANKS[side]
    ones, others, bar = lack
    for row in (ones, others, bar):
        if row != sorted(set(row)) or [name for name in row if name not in samples.with_thought(net)]:
            return False
    if -1 not in ones or -1 in bar or set(ones) & set(others):
        return False
    if not samples.free(net, counted, ones) or not samples.free(net, counted, others):
        return False
    beside = [name for name in samples.names(net) if name not in bar]
    return len(ones) + len(others) == len(beside) + 2 * counted(net, bar) + 1


class Thinned(unittest.TestCase):

    def assert_thinned(self, made, counted, net, pair, orders):
        told = thinned(made(net), list(pair[0]), list(pair[1]))
        where = (made, net, pair, told)
        self.assertEqual([type(told), type(told[0]), type(told[1])], [tuple, list, list], where)
        for order in orders:
            self.assertEqual(told, thinned_by(net, counted, pair, order), where)
        self.assertEqual(samples.reach(net, counted, told[0]), samples.reach(net, counted, told[1]), where)
        self.assertEqual(len(told[0]), len(told[1]), where)
        self.assertTrue(set(told[0]) <= set(pair[0]) and set(told[1]) <= set(pair[1]), where)

    def test_by_the_names_of_the_interface(self):
        self.assertEqual(thinned(rule=ByTrees(TRIANGLE), ones=[], others=[]), ([], []))

    def test_ordinary(self):
        twins = ((0, 1), [(3, 0, 1), (5, 0, 1), (8, 1, 2)])
        self.assertEqual(thinned(ByTrees(twins), [3, 8], [5]), ([3], [5]))
        self.assertEqual(thinned(ByTrees(twins), [5], [8, 3]), ([5], [3]))
        self.assertEqual(thinned(ByTrees(twins), [3], [8]), ([], []))
        strand = ((0, 2), [(1, 0, 1), (2, 1, 2)])
        self.assertEqual(thinned(ByRest(strand), [2], [1]), ([2], [1]))
        self.assertEqual(thinned(ByTrees(strand), [2], [1]), ([], []))

    def test_a_name_that_goes_makes_others_go(self):
        # The second row does not meet the place 1; without the ties there the first one reaches none of the second.
        net = ((0, 4), [(0, 0, 1), (1, 1, 2), (2, 0, 2), (3, 2, 3), (4, 0, 3), (5, 3, 4), (6, 0, 4)])
        self.assertEqual(thinned(ByTrees(net), [0, 1, 3, 5], [2, 4, 6]), ([], []))

    def test_the_first_row_stays_the_first(self):
        net = samples.EVERY_PAIR_OF_FOUR
        self.assertEqual(thinned(ByTrees(net), [0, 2, 5], [1, 3, 4]), ([0, 2, 5], [1, 3, 4]))
        self.assertEqual(thinned(ByTrees(net), [4, 3, 1], [5, 0, 2]), ([1, 3, 4], [0, 2, 5]))

    def test_the_thought_tie_in_one_row(self):
        net = ((0, 1), [(3, 0, 1), (8, 1, 2)])
        self.assertEqual(thinned(ByTrees(net), [-1, 8], [3]), ([-1], [3]))
        self.assertEqual(thinned(ByTrees(net), [3], [8, -1]), ([3], [-1]))
        self.assertEqual(thinned(ByTrees(net), [-1], []), ([], []))
        self.assertEqual(thinned(ByRest(net), [-1], [3]), ([-1], [3]))

    def test_empty_rows(self):
        for made, counted in RULES:
            for net in samples.NAMED:
                self.assertEqual(thinned(made(net), [], []), ([], []))

    def test_one_empty_row(self):
        self.assertEqual(thinned(ByTrees(TRIANGLE), [0, 1], []), ([], []))
        self.assertEqual(thinned(ByRest(TRIANGLE), [], [2]), ([], []))

    def test_the_plain_rule_leaves_nothing(self):
        for net in samples.small_nets() + samples.NAMED:
            ties = samples.mixed(samples.with_thought(net), 5)
            self.assertEqual(thinned(Rule(net), ties[::2], ties[1::2]), ([], []))

    def test_every_pair_of_rows_of_small_nets_in_many_orders(self):
        for net in samples.small_nets()[::9] + samples.nets_by(6, 4, 3):
            ties = samples.with_thought(net)
            orders = [samples.mixed(ties, seed) for seed in range(3)]
            for made, counted in RULES:
                for pair in free_pairs(net, counted, ties):
                    self.assert_thinned(made, counted, net, pair, orders)

    def test_in_every_order(self):
        for net in samples.nets_by(6, 4, 3) + [TRIANGLE]:
            ties = samples.with_thought(net)
            for made, counted in RULES[1:]:
                ones, others, bar = packed(made(net), ties)
                self.assert_thinned(made, counted, net, (ones, others), list(itertools.permutations(ties)))

    def test_fourteen_ties_and_eight_places(self):
        for net in great_nets()[::4]:
            for made, counted in RULES[1:]:
                for ties in (samples.names(net), samples.with_thought(net)):
                    ones, others, bar = packed(made(net), ties)
                    orders = [samples.mixed(samples.with_thought(net), 1)]
                    self.assert_thinned(made, counted, net, (ones, others), orders)
                    self.assert_thinned(made, counted, net, (others[1:], ones), orders)

    def test_rows_in_any_order(self):
        net = samples.TWO_ROUNDS
        for made, counted in RULES[1:]:
            ones, others, bar = packed(made(net), samples.with_thought(net))
            told = thinned(made(net), ones, others)
            for seed in range(5):
                self.assertEqual(thinned(made(net), samples.mixed(ones, seed), samples.mixed(others, seed)), told)

    def test_sixty_figures(self):
        great = samples.SIXTY
        self.assertEqual(thinned(ByRest(samples.GREAT), [great - 1], [3]), ([great - 1], [3]))
        self.assertEqual(thinned(ByTrees(samples.GREAT), [great, -1, 3], [great - 1]), ([], []))


class Case(unittest.TestCase):

    def assert_told(self, net, side):
        """Looks paper and lack through; tells whether there is a paper."""
        paper, lack = paper_of(rule_of(side, net)), lack_of(rule_of(side, net))
        where = (net, side, paper, lack)
        if paper is None:
            self.assertEqual([type(lack)] + [type(row) for row in lack], [tuple, list, list, list], where)
            self.assertTrue(is_lack(net, side, lack), where)
        else:
            self.assertIsNone(lack, where)
            self.assertEqual([type(paper)] + [type(row) for row in paper], [tuple, list, list], where)
            self.assertTrue(samples.is_paper(net, side, paper), where)
        return paper is not None


class PapersAndLacks(Case):

    def test_by_the_names_of_the_interface(self):
        net = ((0, 1), [(4, 0, 1), (6, 0, 1)])
        self.assertIn(paper_of(rule=ByTrees(net)), [([4], [6]), ([6], [4])])
        self.assertIsNone(lack_of(rule=ByTrees(net)))

    def test_twins(self):
        net = ((0, 1), [(4, 0, 1), (6, 0, 1)])
        self.assertIs(self.assert_told(net, "linker"), True)
        self.assertIs(self.assert_told(net, "cutter"), False)

    def test_a_strand(self):
        net = ((0, 2), [(4, 0, 1), (6, 1, 2)])
        self.assertIs(self.assert_told(net, "linker"), False)
        self.assertIs(self.assert_told(net, "cutter"), True)
        self.assertIn(paper_of(ByRest(net)), [([4], [6]), ([6], [4])])

    def test_one_tie(self):
        net = ((0, 1), [(4, 0, 1)])
        self.assertIs(self.assert_told(net, "linker"), False)
        self.assertIs(self.assert_told(net, "cutter"), False)
        # With the tie in the bar the count would be one more than both rows have.
        self.assertEqual(lack_of(ByTrees(net)), ([-1], [4], []))
        self.assertEqual(lack_of(ByRest(net)), ([-1], [4], []))

    def test_the_thought_tie_is_in_ones(self):
        for net in samples.nets_by(60, 9, 6):
            for side in samples.SIDES:
                lack = lack_of(rule_of(side, net))
                if lack is not None:
                    self.assertEqual((-1 in lack[0], -1 in lack[1], -1 in lack[2]), (True, False, False))

    def test_a_paper_away_from_the_poles_is_none(self):
        # Two trees that reach alike, but not the thought tie.
        net = ((0, 9), [(1, 0, 9), (2, 4, 5), (3, 4, 5)])
        self.assertIsNone(paper_of(ByTrees(net)))
        self.assertIs(self.assert_told(net, "linker"), False)
        # Two ties of a round that reach alike by rest, but not the thought tie.
        net = ((0, 9), [(1, 0, 9), (2, 0, 5), (3, 0, 5), (4, 0, 5)])
        self.assertIsNone(paper_of(ByRest(net)))
        self.assertIs(self.assert_told(net, "cutter"), False)

    def test_whether_there_is_one_at_all(self):
        seen = []
        for net in samples.small_nets() + samples.nets_by(30, 5, 4) + samples.nets_by(10, 6, 4):
            for side in samples.SIDES:
                found = self.assert_told(net, side)
                self.assertIs(found, has_paper(net, side), (net, side))
                seen.append((side, found))
        self.assertEqual(len(set(seen)), 4)

    def test_any_two_rows_that_are_as_many_as_can_be(self):
        for net in samples.nets_by(25, 5, 4) + samples.small_nets()[::7]:
            for side in samples.SIDES:
                rule = rule_of(side, net)
                found = paper_of(rule) is not None
                pairs = free_pairs(net, samples.RANKS[side], samples.names(net))
                most = max([len(ones) + len(others) for ones, others in pairs])
                for ones, others in pairs:
                    if len(ones) + len(others) == most:
                        self.assertIs(samples.is_paper(net, side, thinned(rule, ones, others)), found)

    def test_never_both(self):
        for net in samples.small_nets() + samples.NAMED + great_nets() + samples.nets_by(60, 8, 5):
            found = [paper_of(rule_of(side, net)) is not None for side in samples.SIDES]
            self.assertNotEqual(found, [True, True], net)


class Edges(Case):

    def test_no_ties(self):
        self.assertEqual(paper_of(ByRest(samples.NO_TIES)), ([], []))
        self.assertIsNone(lack_of(ByRest(samples.NO_TIES)))
        self.assertIsNone(paper_of(ByTrees(samples.NO_TIES)))
        self.assertEqual(lack_of(ByTrees(samples.NO_TIES)), ([-1], [], []))

    def test_one_place(self):
        self.assertEqual(paper_of(ByTrees(samples.ONE_PLACE)), ([], []))
        self.assertIsNone(lack_of(ByTrees(samples.ONE_PLACE)))
        self.assertIsNone(paper_of(ByRest(samples.ONE_PLACE)))
        self.assertEqual(lack_of(ByRest(samples.ONE_PLACE)), ([-1], [], []))

    def test_poles_the_same_place(self):
        self.assertIs(self.assert_told(samples.SAME_POLES, "linker"), True)
        self.assertIs(self.assert_told(samples.SAME_POLES, "cutter"), False)

    def test_poles_that_no_tie_meets(self):
        self.assertIs(self.assert_told(samples.POLES_UNMET, "linker"), False)
        self.assertIs(self.assert_told(samples.POLES_UNMET, "cutter"), True)

    def test_linked_and_parted_nets(self):
        for net in samples.small_nets() + samples.nets_by(80, 5, 6) + great_nets():
            won = samples.won(net)
            if won is not None:
                self.assertIs(self.assert_told(net, won), True)
                self.assertIs(self.assert_told(net, samples.other(won)), False)

    def test_fourteen_ties_and_eight_places(self):
        for net in great_nets():
            for side in samples.SIDES:
                self.assert_told(net, side)

    def test_sixty_figures(self):
        great = samples.SIXTY
        self.assertIs(self.assert_told(samples.GREAT, "linker"), False)
        self.assertIs(self.assert_told(samples.GREAT, "cutter"), True)
        net = ((great - 1, great), [(great - 2, great - 1, great), (great, great - 1, great)])
        self.assertIn(paper_of(ByTrees(net)), [([great - 2], [great]), ([great], [great - 2])])

    def test_somewhat_beyond_the_bounds(self):
        for net in samples.nets_by(6, 18, 10):
            for side in samples.SIDES:
                self.assert_told(net, side)


class KeptApart(unittest.TestCase):
    """What is handed in and what is told change nothing in one another."""

    def test_what_is_handed_in_stays(self):
        for made, counted in RULES:
            for kept in samples.NAMED:
                net = copy.deepcopy(kept)
                rule = made(net)
                rows = packed(rule, samples.with_thought(net))
                ones, others = samples.mixed(rows[0], 1), samples.mixed(rows[1], 2)
                handed = (list(ones), list(others))
                thinned(rule, handed[0], handed[1])
                if made != Rule:
                    paper_of(rule)
                    lack_of(rule)
                self.assertEqual((handed, net), ((ones, others), kept))
                self.assertTrue(rule == made(kept))
                self.assertEqual(rule.rank(ones), counted(net, ones))

    def test_what_is_told_is_the_asker_s_own(self):
        for net in samples.NAMED:
            for side in samples.SIDES:
                rule = rule_of(side, net)
                ones, others, bar = packed(rule, samples.names(net))
                asked = [lambda: thinned(rule, ones, others), lambda: paper_of(rule), lambda: lack_of(rule)]
                kept = [copy.deepcopy(ask()) for ask in asked]
                rows = copy.deepcopy((ones, others))
                for ask in asked:
                    for row in ask() or ():
                        row.append(77)
                        row.reverse()
                self.assertEqual([ask() for ask in asked], kept)
                self.assertEqual((ones, others), rows)

    def test_told_lists_are_new_each_time(self):
        twins = ByTrees(((0, 1), [(4, 0, 1), (6, 0, 1)]))
        for ones, others in (([], []), ([4], [6])):
            one, other = thinned(twins, ones, others), thinned(twins, ones, others)
            self.assertIsNot(one, other)
            self.assertEqual(len({id(row) for row in one + other + (ones, others)}), 6)
        for rule in (twins, ByTrees(samples.ONE_PLACE)):
            one, other = paper_of(rule), paper_of(rule)
            self.assertIsNot(one, other)
            self.assertEqual(len({id(row) for row in one + other}), 4)
        for rule in (ByRest(samples.ONE_PLACE), ByTrees(TRIANGLE)):
            one, other = lack_of(rule), lack_of(rule)
            self.assertIsNot(one, other)
            self.assertEqual(len({id(row) for row in one + other}), 6)

    def test_asked_again_the_answer_is_equal(self):
        for net in samples.nets_by(15, 9, 6):
            for side in samples.SIDES:
                first = (paper_of(rule_of(side, net)), lack_of(rule_of(side, net)))
                rule = rule_of(side, copy.deepcopy(net))
                paper_of(rule_of(samples.other(side), samples.FULL))
                thinned(rule, [], [])
                self.assertEqual((paper_of(rule), lack_of(rule)), first)
                self.assertEqual((paper_of(rule), lack_of(rule)), first)

    def test_what_is_changed_later_changes_nothing(self):
        net = copy.deepcopy(samples.EVERY_PAIR_OF_FOUR)
        rule = ByTrees(net)
        ones, others = [0, 2, 5], [1, 3, 4]
        told = (thinned(rule, ones, others), paper_of(rule))
        kept = copy.deepcopy(told)
        net[1].clear()
        ones.clear()
        others.append(5)
        self.assertEqual(told, kept)
        self.assertEqual(paper_of(rule), kept[1])


if __name__ == "__main__":
    unittest.main()
