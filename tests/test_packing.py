"""Ties of a row put into two free rows, and the bar that shows that there are no more."""

import copy
import itertools
import unittest

import samples
from linkorcut.packing import packed
from linkorcut.rules import ByRest, ByTrees, Rule

RULES = [(Rule, samples.plain_rank), (ByTrees, samples.tree_rank), (ByRest, samples.rest_rank)]


def most_of_all_pairs(row, free):
    """The most names of two free rows with no name in both, all pairs gone through."""
    most = 0
    for sorts in itertools.product((0, 1, 2), repeat=len(row)):
        many = len(row) - sorts.count(0)
        if many > most:
            ones = tuple([name for name, sort in zip(row, sorts) if sort == 1])
            others = tuple([name for name, sort in zip(row, sorts) if sort == 2])
            if free[ones] and free[others]:
                most = many
    return most


def free_rows(net, counted):
    """Of each row of a net's rule, as a sorted tuple, whether it is free."""
    rows = samples.rows_of(samples.with_thought(net))
    return {tuple(row): counted(net, row) == len(row) for row in rows}


class Case(unittest.TestCase):

    def assert_packed(self, made, counted, net, row):
        """Looks a telling through by ranks that are reckoned without the package; tells its count."""
        told = packed(made(net), list(row))
        where = (made, net, row, told)
        self.assertIs(type(told), tuple, where)
        self.assertEqual([type(each) for each in told], [list, list, list], where)
        for names in told:
            self.assertEqual(names, sorted(set(names)), where)
            self.assertLessEqual(set(names), set(row), where)
        ones, others, bar = told
        self.assertFalse(set(ones) & set(others), where)
        self.assertEqual(counted(net, ones), len(ones), where)
        self.assertEqual(counted(net, others), len(others), where)
        beside = [name for name in row if name not in bar]
        self.assertEqual(len(beside) + 2 * counted(net, bar), len(ones) + len(others), where)
        return len(ones) + len(others)

    def assert_most(self, made, net, row, most):
        counted = dict(RULES)[made]
        self.assertEqual(self.assert_packed(made, counted, net, row), most, (made, net, row))


class Ordinary(Case):

    def test_by_the_names_of_the_interface(self):
        self.assertEqual(packed(rule=ByTrees(samples.NO_TIES), row=[]), ([], [], []))

    def test_two_trees_of_four_places(self):
        self.assert_most(ByTrees, samples.EVERY_PAIR_OF_FOUR, [0, 1, 2, 3, 4, 5], 6)
        self.assert_most(ByTrees, samples.EVERY_PAIR_OF_FOUR, [-1, 0, 1, 2, 3, 4, 5], 6)
        self.assert_most(ByRest, samples.EVERY_PAIR_OF_FOUR, [0, 1, 2, 3, 4, 5], 6)
        self.assert_most(ByRest, samples.EVERY_PAIR_OF_FOUR, [-1, 0, 1, 2, 3, 4, 5], 7)

    def test_three_twins(self):
        net = ((0, 1), [(0, 0, 1), (1, 0, 1), (2, 0, 1)])
        self.assert_most(ByTrees, net, [0, 1, 2], 2)
        self.assert_most(ByTrees, net, [-1, 0, 1, 2], 2)
        self.assert_most(ByRest, net, [0, 1, 2], 3)
        self.assert_most(ByRest, net, [-1, 0, 1, 2], 4)

    def test_loops(self):
        net = ((0, 1), [(0, 0, 0), (1, 1, 1), (2, 0, 1), (3, 2, 2)])
        self.assert_most(ByTrees, net, [0, 1, 3], 0)
        self.assert_most(ByTrees, net, [0, 1, 2, 3], 1)
        self.assert_most(ByRest, net, [0, 1, 3], 3)
        self.assert_most(ByRest, net, [0, 1, 2, 3], 4)

    def test_bridges(self):
        net = ((0, 1), [(0, 2, 3), (1, 3, 4), (2, 4, 5)])
        self.assert_most(ByTrees, net, [0, 1, 2], 3)
        self.assert_most(ByRest, net, [0, 1, 2], 0)
        self.assert_most(ByRest, net, [-1, 0, 1, 2], 0)

    def test_names_are_pushed_to_the_other_row(self):
        # By whatever names: where a row is filled as long as it has room, it is in the way of ties that come later.
        pairs = [(0, 1), (2, 3), (1, 2), (0, 1), (0, 2), (1, 3)]
        for order in itertools.permutations(pairs):
            net = ((0, 3), [(name, one, other) for name, (one, other) in enumerate(order)])
            self.assert_most(ByTrees, net, [0, 1, 2, 3, 4, 5], 6)
            self.assert_most(ByRest, net, [-1, 0, 1, 2, 3, 4, 5], 7)

    def test_great_nets_of_two_trees(self):
        ties = [(place, place + 1) for place in range(7)] + [(0, 2), (2, 4), (4, 6), (6, 1), (1, 3), (3, 5), (5, 7)]
        for seed in range(40):
            order = samples.mixed(range(14), seed)
            net = ((0, 7), [(name, min(ties[at]), max(ties[at])) for name, at in enumerate(order)])
            self.assert_most(ByTrees, net, list(range(14)), 14)
            self.assert_most(ByTrees, net, list(range(-1, 14)), 14)

    def test_the_plain_rule(self):
        for net in samples.small_nets() + samples.NAMED:
            self.assert_most(Rule, net, samples.with_thought(net), len(net[1]) + 1)
            self.assert_most(Rule, net, samples.names(net), len(net[1]))


class Edges(Case):

    def test_the_empty_row(self):
        for made, counted in RULES:
            for net in samples.NAMED:
                self.assertEqual(packed(made(net), []), ([], [], []))

    def test_the_thought_tie_alone(self):
        for net in samples.small_nets() + samples.NAMED:
            self.assert_most(Rule, net, [-1], 1)
            self.assert_most(ByTrees, net, [-1], samples.tree_rank(net, [-1]))
            self.assert_most(ByRest, net, [-1], samples.rest_rank(net, [-1]))

    def test_no_ties(self):
        self.assert_most(ByTrees, samples.NO_TIES, [-1], 1)
        self.assert_most(ByRest, samples.NO_TIES, [-1], 0)
        self.assert_most(ByTrees, samples.ONE_PLACE, [-1], 0)
        self.assert_most(ByRest, samples.ONE_PLACE, [-1], 1)

    def test_poles_the_same_place(self):
        self.assert_most(ByTrees, samples.SAME_POLES, [-1, 0, 1, 5, 6], 2)
        self.assert_most(ByRest, samples.SAME_POLES, [-1, 0, 1, 5, 6], 5)

    def test_poles_that_no_tie_meets(self):
        self.assert_most(ByTrees, samples.POLES_UNMET, [-1, 3, 4, 8], 4)
        self.assert_most(ByRest, samples.POLES_UNMET, [-1, 3, 4, 8], 2)

    def test_sixty_figures(self):
        great = samples.SIXTY
        self.assert_most(ByTrees, samples.GREAT, [great, 3, -1, great - 1], 4)
        self.assert_most(ByRest, samples.GREAT, [great, 3, -1, great - 1], 2)

    def test_fourteen_ties_and_eight_places(self):
        for net in [samples.FULL] + samples.nets_by(40, 14, 8) + samples.nets_by(20, 14, 5):
            for made, counted in RULES:
                self.assert_packed(made, counted, net, samples.names(net))
                self.assert_packed(made, counted, net, samples.with_thought(net))

    def test_somewhat_beyond_the_bounds(self):
        net = ((0, 9), [(name, name % 9, name % 9 + 1) for name in range(18)])
        for made, counted in RULES:
            self.assert_packed(made, counted, net, samples.with_thought(net))


class AllPairs(Case):

    def test_every_row_of_small_nets(self):
        for net in samples.small_nets():
            for made, counted in RULES:
                free = free_rows(net, counted)
                for row in samples.rows_of(samples.with_thought(net)):
                    self.assert_most(made, net, row, most_of_all_pairs(row, free))

    def test_nets_of_six_ties(self):
        for net in samples.nets_by(25, 6, 4) + samples.nets_by(8, 6, 6) + samples.nets_by(5, 6, 2):
            for made, counted in RULES[1:]:
                free = free_rows(net, counted)
                for row in (samples.names(net), samples.with_thought(net), samples.with_thought(net)[:4]):
                    self.assert_most(made, net, row, most_of_all_pairs(row, free))

    def test_no_pair_has_more_than_the_count_of_any_bar(self):
        for net in samples.nets_by(12, 4, 3):
            for made, counted in RULES:
                row = samples.with_thought(net)
                most = self.assert_packed(made, counted, net, row)
                for bar in samples.rows_of(row):
                    self.assertLessEqual(most, len(row) - len(bar) + 2 * counted(net, bar))

    def test_rows_in_any_order(self):
        for net in samples.nets_by(6, 4, 3):
            for made, counted in RULES:
                most = self.assert_packed(made, counted, net, samples.with_thought(net))
                for order in itertools.permutations(samples.with_thought(net)):
                    self.assert_most(made, net, list(order), most)


class KeptApart(Case):
    """What is handed in and what is told change nothing in one another."""

    def test_what_is_handed_in_stays(self):
        for made, counted in RULES:
            for kept in samples.NAMED:
                net = copy.deepcopy(kept)
                rule = made(net)
                row = samples.mixed(samples.with_thought(net), 4)
                handed = list(row)
                packed(rule, handed)
                self.assertEqual((handed, net), (row, kept))
                self.assertEqual(rule.ties(), samples.with_thought(net))
                self.assertEqual(rule.rank(row), counted(net, row))

    def test_what_is_told_is_the_asker_s_own(self):
        for made, counted in RULES:
            rule = made(samples.TWO_ROUNDS)
            row = rule.ties()
            told = packed(rule, row)
            kept = copy.deepcopy(told)
            for names in told:
                names.append(77)
                names.reverse()
            self.assertEqual(row, samples.with_thought(samples.TWO_ROUNDS))
            self.assertEqual(rule.ties(), row)
            self.assertEqual(packed(rule, row), kept)

    def test_told_lists_are_new_each_time(self):
        rule = ByTrees(samples.TWO_ROUNDS)
        for row in ([], [1], [1, 2, 3, 4]):
            one, other = packed(rule, row), packed(rule, row)
            self.assertIsNot(one, other)
            lists = list(one) + list(other) + [row]
            self.assertEqual(len(set([id(each) for each in lists])), 7)

    def test_what_is_changed_later_changes_nothing(self):
        net = copy.deepcopy(samples.TWO_ROUNDS)
        rule = ByTrees(net)
        row = rule.ties()
        told = packed(rule, row)
        kept = copy.deepcopy(told)
        net[1].clear()
        self.assertEqual(packed(rule, row), kept)
        row.clear()
        self.assertEqual(told, kept)

    def test_asked_again_the_answer_is_equal(self):
        for made, counted in RULES:
            for net in samples.nets_by(10, 9, 6):
                first = packed(made(net), samples.with_thought(net))
                rule = made(copy.deepcopy(net))
                packed(rule, samples.names(net)[:5])
                packed(made(samples.FULL), [-1, 3, 5])
                self.assertEqual(packed(rule, samples.with_thought(net)), first)
                self.assertEqual(packed(rule, samples.with_thought(net)), first)


if __name__ == "__main__":
    unittest.main()
