"""All plays of small nets gone through."""

import copy
import unittest

import cases
import samples
from linkorcut.errors import TooBig
from linkorcut.outcomes import outcome, winner
from linkorcut.tried import all_plays, tried


def counts_of(most):
    """All rows of numbers from 1 that are not more than so many together."""
    rows = [[count] for count in range(1, most + 1)]
    for row in rows:
        rows.extend([row + [count] for count in range(1, most + 1 - sum(row))])
    return rows


def with_more(net, many):
    """The net with ties that join its first place to itself, so many in all."""
    more = [(1000 + at, net[0][0], net[0][0]) for at in range(many - len(net[1]))]
    return (net[0], net[1] + more)


class Case(cases.Case):

    def assert_word(self, net, word):
        """Looks at all that is told of a net whose word is known."""
        self.assertEqual(all_plays(net), word, net)
        for side in samples.SIDES:
            self.assertEqual(tried(net, side), side if word == "first" else word, (net, side))


class Ordinary(Case):

    def test_by_the_names_of_the_interface(self):
        net = ((0, 1), [(4, 0, 1)])
        self.assertEqual(tried(net=net, begins="cutter"), "cutter")
        self.assertEqual(all_plays(net=net), "first")

    def test_one_tie(self):
        self.assert_word(((0, 1), [(4, 0, 1)]), "first")

    def test_twins_and_a_strand(self):
        self.assert_word(((0, 1), [(4, 0, 1), (6, 0, 1)]), "linker")
        self.assert_word(((0, 2), [(4, 0, 1), (6, 1, 2)]), "cutter")

    def test_a_loop_to_take_helps_nobody(self):
        self.assert_word(((0, 1), [(4, 0, 1), (6, 1, 1)]), "first")
        self.assert_word(((0, 1), [(3, 0, 0), (4, 0, 1), (5, 0, 1), (6, 2, 3)]), "linker")

    def test_all_plays_of_small_nets(self):
        words = []
        nets = samples.small_nets() + samples.nets_by(40, 5, 4) + samples.nets_by(25, 6, 4) + samples.nets_by(15, 6, 6)
        for net in nets:
            seen = {}
            for side in samples.SIDES:
                self.assertEqual(tried(net, side), samples.played(net, side, seen), (net, side))
            words.append(samples.played_word(net))
            self.assert_word(net, words[-1])
        self.assertEqual(sorted(set(words)), ["cutter", "first", "linker"])
        self.assertGreater(words.count("first"), 20)

    def test_the_word_of_the_outcome(self):
        words = []
        nets = samples.small_nets() + samples.nets_by(80, 6, 5) + samples.nets_by(60, 7, 5) + samples.nets_by(40, 7, 7)
        for net in nets:
            words.append(outcome(net)[0])
            self.assertEqual(all_plays(net), words[-1], net)
            for side in samples.SIDES:
                self.assertEqual(tried(net, side), winner(net, side), (net, side))
        self.assertGreater(min([words.count(word) for word in ("linker", "cutter", "first")]), 20)

    def test_steps(self):
        words = []
        for counts in counts_of(7):
            words.append(samples.word_of_steps(counts))
            self.assert_word(samples.steps(counts), words[-1])
        self.assertEqual(len(set(words)), 3)

    def test_steps_with_one_missing(self):
        for counts in ([0], [2, 0], [0, 3], [2, 0, 2], [3, 0, 0, 4]):
            self.assert_word(samples.steps(counts), "cutter")

    def test_strands(self):
        words = []
        for counts in counts_of(7):
            words.append(samples.word_of_strands(counts))
            self.assert_word(samples.strands(counts), words[-1])
        self.assertEqual(len(set(words)), 3)


class Edges(Case):

    def test_no_ties(self):
        self.assert_word(samples.NO_TIES, "cutter")
        self.assert_word(samples.ONE_PLACE, "linker")

    def test_won_without_a_deed(self):
        self.assert_word(samples.SAME_POLES, "linker")
        self.assert_word(samples.POLES_UNMET, "cutter")
        for net in samples.small_nets() + samples.nets_by(60, 6, 7):
            if samples.won(net) is not None:
                self.assert_word(net, samples.won(net))

    def test_seven_ties(self):
        self.assert_word(samples.EVERY_PAIR_OF_FOUR, "linker")
        self.assert_word(with_more(samples.EVERY_PAIR_OF_FOUR, 7), "linker")
        for net in (samples.SAME_POLES, samples.ONE_PLACE, samples.POLES_UNMET, samples.NO_TIES):
            self.assert_word(with_more(net, 7), samples.won(net))
        for net in samples.nets_by(20, 7, 4) + samples.nets_by(20, 7, 6):
            self.assertEqual(len(net[1]), 7)
            self.assert_word(net, samples.played_word(net))

    def test_sixty_figures(self):
        top = samples.SIXTY
        self.assert_word(samples.GREAT, "cutter")
        self.assert_word(((top - 1, top), [(top, top - 1, top)]), "first")
        self.assert_word(((top - 1, top), [(top - 1, top - 1, top), (top, top - 1, top)]), "linker")

    def test_more_places_than_a_net_may_have(self):
        ties = [(name, 2 * name + 2, 2 * name + 3) for name in range(6)] + [(9, 0, 1)]
        self.assert_word(((0, 1), ties), "first")
        self.assert_word(((0, 20), ties), "cutter")


class Refused(Case):

    def assert_too_big(self, net):
        kept = copy.deepcopy(net)
        for side in samples.SIDES:
            self.assertEqual(vars(self.assert_refused(TooBig, tried, net, side)), {})
        self.assert_refused(TooBig, all_plays, net)
        self.assertEqual(net, kept)

    def test_eight_ties(self):
        self.assert_too_big(samples.TWO_ROUNDS)
        for net in samples.nets_by(20, 8, 5) + [samples.steps([8]), samples.steps([1] * 8), samples.steps([2] * 4)]:
            self.assert_too_big(net)

    def test_eight_ties_of_linked_and_parted_nets(self):
        for net in (samples.SAME_POLES, samples.ONE_PLACE, samples.POLES_UNMET, samples.NO_TIES):
            self.assert_too_big(with_more(net, 8))
            self.assert_too_big(with_more(net, 14))

    def test_whatever_the_ties_are(self):
        self.assert_too_big(with_more(((0, 1), [(4, 0, 1)]), 8))
        self.assert_too_big(((0, 1), [(name, 5, 5) for name in range(8)]))
        self.assert_too_big(((0, 1), [(name, 0, 1) for name in range(8)]))

    def test_fourteen_ties_and_beyond(self):
        self.assert_too_big(samples.FULL)
        self.assert_too_big(samples.steps([2] * 9))


class KeptApart(Case):
    """What is handed in and what is told change nothing in one another."""

    def test_what_is_handed_in_stays(self):
        for kept in [net for net in samples.NAMED if len(net[1]) <= 7]:
            net = copy.deepcopy(kept)
            for side in samples.SIDES:
                tried(net, side)
                self.assertEqual(net, kept)
            all_plays(net)
            self.assertEqual(net, kept)

    def test_asked_again_the_answer_is_equal(self):
        for net in samples.nets_by(15, 6, 4):
            first = (tried(net, "linker"), tried(net, "cutter"), all_plays(net))
            tried(samples.EVERY_PAIR_OF_FOUR, "cutter")
            other = copy.deepcopy(net)
            self.assertEqual((tried(other, "linker"), tried(other, "cutter"), all_plays(other)), first)

    def test_a_net_that_was_changed_is_another_one(self):
        net = copy.deepcopy(samples.EVERY_PAIR_OF_FOUR)
        self.assertEqual(all_plays(net), "linker")
        net[1].clear()
        self.assertEqual(all_plays(net), "cutter")
        net[1].append((4, 0, 3))
        self.assertEqual((tried(net, "linker"), tried(net, "cutter"), all_plays(net)), ("linker", "cutter", "first"))


if __name__ == "__main__":
    unittest.main()
