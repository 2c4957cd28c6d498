"""The three rules: ranks, free rows, what rows reach, and rules of nets behind a deed."""

import copy
import itertools
import unittest

import samples
from linkorcut.deeds import drawn, taken_out
from linkorcut.rules import ByRest, ByTrees, Rule, rule_of

RULES = [(Rule, samples.plain_rank), (ByTrees, samples.tree_rank), (ByRest, samples.rest_rank)]

TRIANGLE = ((0, 2), [(0, 0, 1), (1, 1, 2), (2, 0, 2)])


def nets():
    return samples.small_nets() + samples.nets_by(25, 5, 4) + samples.nets_by(10, 5, 8)


def cases(made):
    """Each net with each row of it and of its thought tie, the names in some order or other."""
    for at, net in enumerate(made):
        for row in samples.rows_of(samples.with_thought(net)):
            yield net, samples.mixed(row, at)


def big_cases():
    """Great nets with some of their rows."""
    for net in samples.NAMED + samples.nets_by(10, 14, 8):
        ties = samples.with_thought(net)
        for seed in range(4):
            for many in range(len(ties) + 1):
                yield net, samples.mixed(ties, seed)[:many]


def without(names, gone):
    return [name for name in names if name not in gone]


class Classes(unittest.TestCase):

    def test_two_classes_stand_under_rule(self):
        self.assertTrue(issubclass(ByTrees, Rule))
        self.assertTrue(issubclass(ByRest, Rule))
        self.assertFalse(issubclass(ByTrees, ByRest))
        self.assertFalse(issubclass(ByRest, ByTrees))

    def test_the_sides_have_their_rules(self):
        self.assertIs(type(rule_of("linker", TRIANGLE)), ByTrees)
        self.assertIs(type(rule_of("cutter", TRIANGLE)), ByRest)

    def test_the_sides_rules_are_of_the_net(self):
        for net, row in cases(samples.nets_by(6, 4, 4)):
            self.assertEqual(rule_of("linker", net).rank(row), samples.tree_rank(net, row))
            self.assertEqual(rule_of("cutter", net).rank(row), samples.rest_rank(net, row))

    def test_by_the_names_of_the_interface(self):
        for made in (Rule(net=TRIANGLE), ByTrees(net=TRIANGLE), rule_of(side="cutter", net=TRIANGLE)):
            self.assertEqual(made.rank(row=[0]), 1)
            self.assertIs(made.free(row=[0]), True)
            self.assertIn(0, made.reach(row=[0]))

    def test_kinds(self):
        for made, rank in RULES:
            for net, row in cases([TRIANGLE, samples.NO_TIES, samples.SAME_POLES]):
                rule = made(net)
                self.assertIs(type(rule.rank(row)), int)
                self.assertIs(type(rule.free(row)), bool)
                self.assertIs(type(rule.reach(row)), list)
                self.assertIs(type(rule.ties()), list)
                self.assertEqual([tie for tie in rule.ties() if type(tie) is not int], [])


class Ties(unittest.TestCase):

    def test_the_thought_one_and_the_names(self):
        for made, rank in RULES:
            self.assertEqual(made(samples.LOOPS_AND_TWINS).ties(), [-1, 0, 2, 4, 7, 10, 11])
            self.assertEqual(made(samples.FULL).ties(), list(range(-1, 14)))
            great = samples.SIXTY
            self.assertEqual(made(samples.GREAT).ties(), [-1, 3, great - 1, great])

    def test_no_ties(self):
        for made, rank in RULES:
            self.assertEqual(made(samples.NO_TIES).ties(), [-1])
            self.assertEqual(made(samples.ONE_PLACE).ties(), [-1])


class Plain(unittest.TestCase):

    def test_the_number_of_names(self):
        rule = Rule(samples.LOOPS_AND_TWINS)
        self.assertEqual(rule.rank([]), 0)
        self.assertEqual(rule.rank([4]), 1)
        self.assertEqual(rule.rank([7, -1, 2]), 3)
        self.assertEqual(rule.rank([-1, 0, 2, 4, 7, 10, 11]), 7)

    def test_every_row_is_free_and_reaches_itself_alone(self):
        for net, row in cases(nets()):
            rule = Rule(net)
            self.assertIs(rule.free(row), True)
            self.assertEqual(rule.reach(row), sorted(row))


class Trees(unittest.TestCase):

    def test_ordinary(self):
        rule = ByTrees(TRIANGLE)
        ranks = [([], 0), ([0], 1), ([-1], 1), ([0, 1], 2), ([2, -1], 1), ([1, 0, 2], 2), ([2, 1, 0, -1], 2)]
        for row, rank in ranks:
            self.assertEqual(rule.rank(row), rank)
            self.assertIs(rule.free(row), rank == len(row))
        self.assertEqual(rule.reach([]), [])
        self.assertEqual(rule.reach([0]), [0])
        self.assertEqual(rule.reach([2]), [-1, 2])
        self.assertEqual(rule.reach([1, 0]), [-1, 0, 1, 2])

    def test_loops_are_not_free_and_always_reached(self):
        rule = ByTrees(samples.LOOPS_AND_TWINS)
        for row in ([4], [10], [11, 4], [4, 2]):
            self.assertIs(rule.free(row), False)
        self.assertEqual(rule.rank([4, 10, 11]), 0)
        self.assertEqual(rule.reach([]), [4, 10, 11])

    def test_twins_are_not_free_together(self):
        rule = ByTrees(samples.LOOPS_AND_TWINS)
        self.assertIs(rule.free([2]), True)
        self.assertIs(rule.free([2, 7]), False)
        self.assertEqual(rule.reach([7]), [-1, 2, 4, 7, 10, 11])

    def test_the_thought_tie(self):
        self.assertEqual(ByTrees(samples.NO_TIES).rank([-1]), 1)
        self.assertIs(ByTrees(samples.NO_TIES).free([-1]), True)
        self.assertEqual(ByTrees(samples.NO_TIES).reach([]), [])
        self.assertEqual(ByTrees(samples.POLES_UNMET).rank([-1, 8, 4]), 3)

    def test_the_thought_tie_of_poles_that_are_one(self):
        for net in (samples.ONE_PLACE, samples.SAME_POLES):
            rule = ByTrees(net)
            self.assertEqual(rule.rank([-1]), 0)
            self.assertIs(rule.free([-1]), False)
            self.assertIn(-1, rule.reach([]))

    def test_fourteen_ties_and_eight_places(self):
        rule = ByTrees(samples.FULL)
        self.assertEqual(rule.rank(list(range(14))), 7)
        self.assertIs(rule.free([0, 1, 3, 5, 6, 8, 10]), True)
        self.assertEqual(rule.reach([0, 1, 3, 5, 6, 8, 10]), list(range(-1, 14)))

    def test_free_is_without_a_round(self):
        for net, row in cases(nets()):
            rounds = []
            for tie in row:
                one, other = samples.pairs(net, [tie])[0]
                if other in samples.met_from(one, samples.pairs(net, without(row, [tie]))):
                    rounds.append(tie)
            self.assertIs(ByTrees(net).free(row), rounds == [], (net, row))

    def test_reached_is_what_joins_places_of_one_part(self):
        for net, row in cases(nets()):
            steps = samples.pairs(net, row)
            reached = []
            for tie in samples.with_thought(net):
                one, other = samples.pairs(net, [tie])[0]
                if other in samples.met_from(one, steps):
                    reached.append(tie)
            self.assertEqual(ByTrees(net).reach(row), reached, (net, row))


class Rest(unittest.TestCase):

    def test_ordinary(self):
        rule = ByRest(TRIANGLE)
        ranks = [([], 0), ([0], 1), ([-1], 1), ([0, 1], 1), ([2, -1], 2), ([1, 2], 2), ([2, 1, 0, -1], 2)]
        for row, rank in ranks:
            self.assertEqual(rule.rank(row), rank)
            self.assertIs(rule.free(row), rank == len(row))
        self.assertEqual(rule.reach([]), [])
        self.assertEqual(rule.reach([0]), [0, 1])
        self.assertEqual(rule.reach([2]), [2])
        self.assertEqual(rule.reach([2, -1]), [-1, 0, 1, 2])

    def test_loops_are_free(self):
        rule = ByRest(samples.LOOPS_AND_TWINS)
        self.assertIs(rule.free([11, 4, 10]), True)
        self.assertEqual(rule.rank([11, 4, 10]), 3)
        self.assertNotIn(4, rule.reach([10, 11]))

    def test_bridges_are_not_free_and_always_reached(self):
        rule = ByRest(samples.TWO_ROUNDS)
        self.assertIs(rule.free([8]), False)
        self.assertEqual(rule.rank([8]), 0)
        # With the thought tie the tie between the rounds is no bridge.
        self.assertIs(rule.free([4]), True)
        self.assertEqual(rule.reach([]), [8])
        self.assertEqual(rule.reach([-1]), [-1, 4, 8])

    def test_the_thought_tie(self):
        self.assertEqual(ByRest(samples.NO_TIES).rank([-1]), 0)
        self.assertIs(ByRest(samples.NO_TIES).free([-1]), False)
        self.assertEqual(ByRest(samples.NO_TIES).reach([]), [-1])
        self.assertEqual(ByRest(samples.POLES_UNMET).reach([]), [-1])
        self.assertEqual(ByRest(TRIANGLE).rank([-1]), 1)

    def test_the_thought_tie_of_poles_that_are_one(self):
        for net in (samples.ONE_PLACE, samples.SAME_POLES):
            rule = ByRest(net)
            self.assertEqual(rule.rank([-1]), 1)
            self.assertIs(rule.free([-1]), True)
            self.assertNotIn(-1, rule.reach([]))

    def test_fourteen_ties_and_eight_places(self):
        rule = ByRest(samples.FULL)
        self.assertEqual(rule.rank(list(range(-1, 14))), 8)
        self.assertIs(rule.free([-1, 2, 4, 7, 9, 11, 12, 13]), True)
        self.assertEqual(rule.reach([-1, 2, 4, 7, 9, 11, 12, 13]), list(range(-1, 14)))

    def test_free_is_what_nothing_falls_apart_without(self):
        for net, row in cases(nets()):
            everything = samples.with_thought(net)
            whole = samples.parts(net, everything) == samples.parts(net, without(everything, row))
            self.assertIs(ByRest(net).free(row), whole, (net, row))

    def test_reached_are_its_own_and_bridges_among_the_others(self):
        for net, row in cases(nets()):
            others = without(samples.with_thought(net), row)
            many = len(samples.parts(net, others))
            reached = list(row)
            for tie in others:
                if len(samples.parts(net, without(others, [tie]))) == many + 1:
                    reached.append(tie)
            self.assertEqual(ByRest(net).reach(row), sorted(reached), (net, row))


class AgainstCounting(unittest.TestCase):

    def assert_counted(self, net, row):
        for made, counted in RULES:
            rule = made(net)
            rank = counted(net, row)
            self.assertEqual(rule.rank(row), rank, (made, net, row))
            self.assertIs(rule.free(row), rank == len(row), (made, net, row))
            reached = []
            for tie in samples.with_thought(net):
                if counted(net, row if tie in row else row + [tie]) <= rank:
                    reached.append(tie)
            self.assertEqual(rule.reach(row), reached, (made, net, row))
            self.assertEqual(without(row, reached), [])

    def test_every_row_of_small_nets(self):
        for net, row in cases(nets()):
            self.assert_counted(net, row)

    def test_rows_of_great_nets(self):
        for net, row in big_cases():
            self.assert_counted(net, row)

    def test_somewhat_beyond_the_bounds(self):
        net = ((0, 9), [(name, name % 9, name % 9 + 1) for name in range(18)])
        for row in ([], [-1], [17, 3, 8], list(range(18)), [-1] + list(range(9))):
            self.assert_counted(net, row)

    def test_rows_in_any_order(self):
        for net in (samples.SAME_POLES, samples.GREAT, samples.POLES_UNMET):
            for made, counted in RULES:
                rule = made(net)
                for chosen in samples.rows_of(samples.with_thought(net)):
                    told = (rule.rank(chosen), rule.free(chosen), rule.reach(chosen))
                    for order in itertools.permutations(chosen):
                        row = list(order)
                        self.assertEqual((rule.rank(row), rule.free(row), rule.reach(row)), told)


class BehindADeed(unittest.TestCase):

    def assert_ranks_behind(self, made, deed, net, tie, rows):
        rule, behind = made(net), made(deed(net, tie))
        for row in rows:
            self.assertEqual(behind.rank(row), rule.rank(row + [tie]) - rule.rank([tie]), (made, net, tie, row))

    def test_every_row_of_small_nets(self):
        for net in nets():
            for tie in samples.names(net):
                rows = samples.rows_of(without(samples.with_thought(net), [tie]))
                self.assert_ranks_behind(ByTrees, drawn, net, tie, rows)
                self.assert_ranks_behind(ByRest, taken_out, net, tie, rows)

    def test_rows_of_great_nets(self):
        for net in samples.NAMED + samples.nets_by(6, 14, 8):
            for tie in samples.names(net):
                left = samples.mixed(without(samples.with_thought(net), [tie]), tie % 1000)
                rows = [left[:many] for many in range(len(left) + 1)]
                self.assert_ranks_behind(ByTrees, drawn, net, tie, rows)
                self.assert_ranks_behind(ByRest, taken_out, net, tie, rows)


class Equal(unittest.TestCase):

    def test_of_one_class_and_of_equal_nets(self):
        for made, counted in RULES:
            for net in samples.NAMED:
                self.assertTrue(made(net) == made(copy.deepcopy(net)))
                self.assertFalse(made(net) != made(copy.deepcopy(net)))

    def test_of_other_nets(self):
        for made, counted in RULES:
            for one, other in itertools.permutations(samples.NAMED, 2):
                self.assertFalse(made(one) == made(other))

    def test_of_two_classes(self):
        for one, other in itertools.permutations([Rule, ByTrees, ByRest], 2):
            self.assertFalse(one(TRIANGLE) == other(TRIANGLE))
            self.assertTrue(one(TRIANGLE) != other(TRIANGLE))

    def test_of_anything_else(self):
        self.assertFalse(Rule(TRIANGLE) == TRIANGLE)
        self.assertFalse(ByTrees(TRIANGLE) == "trees")

    def test_equal_rules_tell_equal_things(self):
        for made, counted in RULES:
            one, other = made(samples.TWO_ROUNDS), made(copy.deepcopy(samples.TWO_ROUNDS))
            for row in samples.rows_of([-1, 1, 4, 5, 8]):
                told = [(rule.rank(row), rule.free(row), rule.reach(row), rule.ties()) for rule in (one, other)]
                self.assertEqual(told[0], told[1])


class KeptApart(unittest.TestCase):
    """What is handed in and what is told change nothing in one another."""

    def told(self, rule, rows):
        return [rule.ties()] + [(rule.rank(row), rule.free(row), rule.reach(row)) for row in rows]

    def test_what_is_handed_in_stays(self):
        for made, counted in RULES:
            for kept in samples.NAMED:
                net = copy.deepcopy(kept)
                rule = made(net)
                row = samples.mixed(samples.with_thought(net), 2)
                for many in range(len(row) + 1):
                    handed = row[:many]
                    self.told(rule, [handed])
                    self.assertEqual(handed, row[:many])
                self.assertEqual(net, kept)

    def test_a_rule_keeps_its_own_net(self):
        for made in (Rule, ByTrees, ByRest, lambda net: rule_of("linker", net), lambda net: rule_of("cutter", net)):
            net = copy.deepcopy(samples.TWO_ROUNDS)
            rows = samples.rows_of([-1, 2, 4, 6, 8])
            rule = made(net)
            before = self.told(rule, rows)
            net[1].append((99, 0, 5))
            self.assertEqual(self.told(rule, rows), before)
            net[1][0] = (1, 7, 7)
            self.assertEqual(self.told(rule, rows), before)
            net[1].clear()
            self.assertEqual(self.told(rule, rows), before)
            self.assertEqual(rule.ties(), [-1, 1, 2, 3, 4, 5, 6, 7, 8])
            self.assertTrue(rule == made(samples.TWO_ROUNDS))

    def test_what_is_told_is_the_asker_s_own(self):
        for made, counted in RULES:
            rule = made(samples.TWO_ROUNDS)
            rows = samples.rows_of([-1, 2, 4, 8])
            before = self.told(rule, rows)
            for row in rows:
                mine = rule.reach(row)
                mine.append(77)
                mine.reverse()
            rule.ties().clear()
            rule.ties().append(77)
            self.assertEqual(self.told(rule, rows), before)
            self.assertIsNot(rule.ties(), rule.ties())
            self.assertIsNot(rule.reach([]), rule.reach([]))

    def test_a_told_reach_is_not_the_row(self):
        row = [-1, 1, 2]
        told = Rule(samples.TWO_ROUNDS).reach(row)
        self.assertEqual(told, row)
        self.assertIsNot(told, row)

    def test_two_rules_do_not_meddle(self):
        one, other = ByTrees(TRIANGLE), ByTrees(samples.NO_TIES)
        for turn in range(3):
            self.assertEqual((one.rank([-1, 0]), other.rank([-1])), (2, 1))
            self.assertEqual((one.ties(), other.ties()), ([-1, 0, 1, 2], [-1]))
            self.assertEqual((one.reach([1, 0]), other.reach([])), ([-1, 0, 1, 2], []))

    def test_asked_again_the_answer_is_equal(self):
        for made, counted in RULES:
            rule = made(samples.LOOPS_AND_TWINS)
            rows = samples.rows_of([-1, 2, 4, 7])
            first = self.told(rule, rows)
            self.assertEqual(self.told(rule, rows[::-1])[:0:-1], first[1:])
            self.assertEqual(self.told(rule, rows), first)


if __name__ == "__main__":
    unittest.main()
