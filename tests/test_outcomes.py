"""Who wins a net: the outcome and its papers, the winner where a side begins, the wins of a side."""

import copy
import itertools
import unittest

import samples
from linkorcut.outcomes import outcome, winner, wins


def small():
    """Nets whose plays can be gone through."""
    return samples.small_nets() + samples.nets_by(40, 5, 4) + samples.nets_by(15, 6, 4) + samples.nets_by(10, 6, 6)


def great():
    return [samples.FULL] + samples.nets_by(12, 14, 8) + samples.nets_by(12, 14, 7)


def counts_of(most, many):
    """All rows of at most so many numbers from 1, which are not more than so many together."""
    rows = []
    for length in range(1, many + 1):
        rows.extend([list(row) for row in itertools.product(range(1, 5), repeat=length) if sum(row) <= most])
    return rows


class Case(unittest.TestCase):

    def assert_outcome(self, net, word):
        """Looks an outcome through by ranks that are counted without the package."""
        told = outcome(net)
        where = (net, told)
        self.assertIs(type(told), tuple, where)
        self.assertEqual(told[0], word, where)
        if word != "first":
            self.assertEqual(len(told), 2, where)
            self.assert_paper(net, word, told[1])
            return
        self.assertEqual(len(told), 3, where)
        for side, step in zip(samples.SIDES, told[1:]):
            self.assertEqual((type(step), len(step), type(step[0])), (tuple, 2, int), where)
            self.assert_paper(samples.behind(net, side, step[0]), side, step[1])

    def assert_paper(self, net, side, paper):
        self.assertEqual([type(paper)] + [type(row) for row in paper], [tuple, list, list])
        self.assertTrue(samples.is_paper(net, side, paper), (net, side, paper))

    def assert_won(self, net, word):
        """Looks at all that is told of a net whose outcome has this word."""
        self.assert_outcome(net, word)
        for side in samples.SIDES:
            self.assertEqual(winner(net, side), side if word == "first" else word, net)
            if word != "first":
                self.assertEqual(wins(net, side), samples.names(net) if side == word else [], net)
            else:
                self.assertNotEqual(wins(net, side), [], net)


class Ordinary(Case):

    def test_by_the_names_of_the_interface(self):
        net = ((0, 1), [(4, 0, 1)])
        self.assertEqual(outcome(net=net)[0], "first")
        self.assertEqual(winner(net=net, begins="cutter"), "cutter")
        self.assertEqual(wins(net=net, side="linker"), [4])

    def test_one_tie(self):
        self.assertEqual(outcome(((0, 1), [(4, 0, 1)])), ("first", (4, ([], [])), (4, ([], []))))

    def test_twins(self):
        net = ((0, 1), [(4, 0, 1), (6, 0, 1)])
        self.assert_won(net, "linker")
        self.assertIn(outcome(net)[1], [([4], [6]), ([6], [4])])

    def test_a_strand(self):
        net = ((0, 2), [(4, 0, 1), (6, 1, 2)])
        self.assert_won(net, "cutter")
        self.assertIn(outcome(net)[1], [([4], [6]), ([6], [4])])

    def test_the_least_ties_of_first(self):
        # A step of twins and one of a tie: the linker needs that tie, the cutter makes two such steps with any.
        net = ((0, 2), [(1, 0, 1), (2, 0, 1), (9, 1, 2)])
        self.assertEqual((wins(net, "linker"), wins(net, "cutter")), ([9], [1, 2, 9]))
        told = outcome(net)
        self.assertEqual((told[0], told[1], told[2][0]), ("first", (9, told[1][1]), 1))
        self.assertIn(told[1][1], [([1], [2]), ([2], [1])])
        self.assertIn(told[2][1], [([2], [9]), ([9], [2])])
        # A strand of two and one of a tie: the cutter needs that tie, the linker makes two such strands with any.
        net = ((0, 2), [(1, 0, 1), (2, 1, 2), (9, 0, 2)])
        self.assertEqual((wins(net, "linker"), wins(net, "cutter")), ([1, 2, 9], [9]))
        told = outcome(net)
        self.assertEqual((told[0], told[1][0], told[2][0]), ("first", 1, 9))
        self.assertIn(told[1][1], [([2], [9]), ([9], [2])])
        self.assertIn(told[2][1], [([1], [2]), ([2], [1])])

    def test_every_pair_of_four(self):
        self.assert_won(samples.EVERY_PAIR_OF_FOUR, "linker")
        less = (samples.EVERY_PAIR_OF_FOUR[0], [tie for tie in samples.EVERY_PAIR_OF_FOUR[1] if tie[0] != 2])
        self.assert_won(less, "first")

    def test_the_named_ones(self):
        words = ["linker", "cutter", "cutter", "linker", "linker", "cutter", "linker", "linker", "cutter"]
        for net, word in zip(samples.NAMED, words, strict=True):
            self.assert_won(net, word)


class AllPlays(Case):

    def test_word_winner_and_wins(self):
        words = []
        for net in small():
            seen = {}
            word = samples.played_word(net)
            words.append(word)
            self.assert_won(net, word)
            for side in samples.SIDES:
                self.assertEqual(winner(net, side), samples.played(net, side, seen), (net, side))
                other = samples.other(side)
                found = []
                for tie in samples.names(net):
                    left = samples.behind(net, side, tie)
                    if samples.played(left, other, seen) == side:
                        found.append(tie)
                self.assertEqual(wins(net, side), found, (net, side))
        self.assertEqual(sorted(set(words)), ["cutter", "first", "linker"])
        self.assertGreater(words.count("first"), 20)

    def test_the_least_ties_are_the_least_wins(self):
        for net in small() + great() + samples.nets_by(40, 9, 6):
            told = outcome(net)
            if told[0] == "first":
                self.assertEqual(told[1][0], wins(net, "linker")[0], net)
                self.assertEqual(told[2][0], wins(net, "cutter")[0], net)

    def test_seven_ties(self):
        for net in samples.nets_by(12, 7, 4) + samples.nets_by(6, 7, 6):
            self.assert_won(net, samples.played_word(net))


class KnownByCounting(Case):

    def test_steps(self):
        words = []
        for counts in counts_of(8, 4):
            words.append(samples.word_of_steps(counts))
            self.assert_won(samples.steps(counts), words[-1])
        self.assertEqual(len(set(words)), 3)

    def test_steps_with_one_missing(self):
        for counts in ([0], [2, 0], [0, 3], [2, 0, 2], [3, 0, 0, 4]):
            self.assertEqual(samples.word_of_steps(counts), "cutter")
            self.assert_won(samples.steps(counts), "cutter")

    def test_strands(self):
        words = []
        for counts in counts_of(8, 4):
            net = samples.strands(counts)
            if len(samples.places(net)) <= 8:
                words.append(samples.word_of_strands(counts))
                self.assert_won(net, words[-1])
        self.assertEqual(len(set(words)), 3)

    def test_the_wins_of_first(self):
        for counts in ([3, 2, 1, 4, 2], [1], [3, 1], [2, 2, 1]):
            net = samples.steps(counts)
            bare = [name for name, one, other in net[1] if counts[one] == 1]
            self.assertEqual(wins(net, "linker"), bare)
            # The cutter may as well make another step of one tie.
            self.assertEqual(wins(net, "cutter"), [name for name, one, other in net[1] if counts[one] <= 2])
        for counts in ([2, 3, 1, 2], [1], [1, 4], [3, 2, 1]):
            net = samples.strands(counts)
            lengths = [count for count in counts for turn in range(count)]
            bare = [tie[0] for tie, length in zip(net[1], lengths) if length == 1]
            self.assertEqual(wins(net, "cutter"), bare)
            # The linker may as well make another strand of one tie.
            self.assertEqual(wins(net, "linker"), [tie[0] for tie, length in zip(net[1], lengths) if length <= 2])

    def test_fourteen_ties(self):
        self.assert_won(samples.steps([2, 2, 2, 2, 2, 2, 2]), "linker")
        self.assert_won(samples.steps([3, 1, 2, 2, 2, 2, 2]), "first")
        self.assert_won(samples.steps([4, 1, 3, 2, 1, 3]), "cutter")
        self.assert_won(samples.strands([7, 7]), "cutter")
        self.assert_won(samples.strands([2, 2, 2, 1, 2, 2, 2, 1]), "linker")
        self.assert_won(samples.strands([2, 2, 2, 1, 2, 2, 3]), "first")

    def test_loops_and_ties_that_hang_on_change_nothing(self):
        for counts in counts_of(5, 3):
            poles, ties = samples.steps(counts)
            more = [(0, 1, 1), (90, 0, 6), (91, 6, 6), (92, 7, 8), (93, 7, 8)]
            self.assert_outcome((poles, sorted(ties + more)), samples.word_of_steps(counts))

    def test_names_change_nothing_of_the_word(self):
        for counts in ([1, 3], [1, 1, 2], [2, 3], [2, 1, 2]):
            poles, ties = samples.steps(counts)
            for order in list(itertools.permutations(range(len(ties))))[:40]:
                named = sorted([(order[at], tie[1], tie[2]) for at, tie in enumerate(ties)])
                self.assert_outcome((poles, named), samples.word_of_steps(counts))


class Edges(Case):

    def test_no_ties(self):
        self.assertEqual(outcome(samples.NO_TIES), ("cutter", ([], [])))
        self.assertEqual(outcome(samples.ONE_PLACE), ("linker", ([], [])))
        for net, side in ((samples.NO_TIES, "cutter"), (samples.ONE_PLACE, "linker")):
            for begins in samples.SIDES:
                self.assertEqual(winner(net, begins), side)
                self.assertEqual(wins(net, begins), [])

    def test_poles_the_same_place(self):
        self.assert_won(samples.SAME_POLES, "linker")
        self.assertEqual(wins(samples.SAME_POLES, "linker"), [0, 1, 5, 6])
        self.assertEqual(wins(samples.SAME_POLES, "cutter"), [])

    def test_poles_that_no_tie_meets(self):
        self.assert_won(samples.POLES_UNMET, "cutter")
        self.assertEqual(wins(samples.POLES_UNMET, "cutter"), [3, 4, 8])
        self.assertEqual(wins(samples.POLES_UNMET, "linker"), [])

    def test_linked_and_parted_nets(self):
        for net in small() + great() + samples.nets_by(60, 9, 8):
            won = samples.won(net)
            if won is not None:
                self.assert_won(net, won)

    def test_fourteen_ties_and_eight_places(self):
        for net in great():
            self.assert_won(net, outcome(net)[0])

    def test_sixty_figures(self):
        top = samples.SIXTY
        self.assert_won(samples.GREAT, "cutter")
        self.assertEqual(
            outcome(((top - 1, top), [(top, top - 1, top)])), ("first", (top, ([], [])), (top, ([], []))))
        net = ((top - 2, top), [(top - 2, top - 2, top - 1), (top - 1, top - 2, top - 1), (top, top - 1, top)])
        self.assertEqual((outcome(net)[1][0], outcome(net)[2][0]), (top, top - 2))
        self.assertEqual((wins(net, "linker"), wins(net, "cutter")), ([top], [top - 2, top - 1, top]))

    def test_somewhat_beyond_the_bounds(self):
        self.assert_won(samples.steps([2, 2, 2, 2, 2, 2, 2, 2]), "linker")
        self.assert_won(samples.steps([2, 2, 2, 1, 2, 2, 2, 2, 2]), "first")
        self.assert_won(samples.strands([2, 4, 5, 5]), "cutter")


class KeptApart(Case):
    """What is handed in and what is told change nothing in one another."""

    def asked(self, net):
        """All that can be asked of a net, as functions."""
        asked = [lambda: outcome(net)]
        for side in samples.SIDES:
            asked.append(lambda side=side: winner(net, side))
            asked.append(lambda side=side: wins(net, side))
        return asked

    def nets(self):
        return samples.NAMED + [samples.steps([2, 1, 2]), samples.strands([2, 1])]

    def test_what_is_handed_in_stays(self):
        for kept in self.nets():
            net = copy.deepcopy(kept)
            for ask in self.asked(net):
                ask()
                self.assertEqual(net, kept)

    def test_what_is_told_is_the_asker_s_own(self):
        for kept in self.nets():
            net = copy.deepcopy(kept)
            for ask in self.asked(net):
                before = copy.deepcopy(ask())
                for each in samples.lists(ask()):
                    if isinstance(each, list):
                        each.append(77)
                        each.reverse()
                self.assertEqual((ask(), net), (before, kept))

    def test_told_lists_are_new_each_time(self):
        for net in self.nets():
            for ask in self.asked(net):
                one, other = ask(), ask()
                every = samples.lists(one) + samples.lists(other) + samples.lists(net)
                self.assertEqual(len({id(each) for each in every}), len(every))

    def test_a_change_of_what_was_handed_in_changes_nothing_told(self):
        for kept in self.nets():
            net = copy.deepcopy(kept)
            told = [ask() for ask in self.asked(net)]
            before = copy.deepcopy(told)
            net[1].clear()
            self.assertEqual(told, before)

    def test_asked_again_the_answer_is_equal(self):
        for net in self.nets() + samples.nets_by(10, 8, 5):
            first = [ask() for ask in self.asked(net)]
            other = copy.deepcopy(net)
            outcome(samples.FULL)
            wins(samples.TWO_ROUNDS, "cutter")
            self.assertEqual([ask() for ask in self.asked(other)], first)
            self.assertEqual([ask() for ask in self.asked(net)][::-1], first[::-1])


if __name__ == "__main__":
    unittest.main()
