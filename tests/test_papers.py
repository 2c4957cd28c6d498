"""Papers and outcomes looked at: those that stand, and those that do not, by each word of theirs."""

import copy
import itertools
import unittest

import samples
from linkorcut.outcomes import outcome
from linkorcut.papers import outcome_stands, stands

TWINS = ((0, 1), [(4, 0, 1), (6, 0, 1)])
STRAND = ((0, 2), [(4, 0, 1), (6, 1, 2)])
ONE_TIE = ((0, 1), [(4, 0, 1)])
# Twins between the poles, and twins that hang on at a pole.
TWICE_TWINS = ((0, 1), [(2, 0, 1), (4, 0, 1), (6, 1, 2), (8, 1, 2)])
# A strand of two and one of three.
TWO_STRANDS = ((0, 1), [(1, 0, 2), (2, 1, 2), (3, 0, 3), (4, 3, 4), (5, 1, 4)])
NUMBERS = [-1, -2, -(10 ** 60), 3, 5, 1000, samples.SIXTY, 10 ** 60, 10 ** 90]


def pairs_of(numbers, most):
    """All tuples of two lists of at most so many such numbers, in every order, also several times the same."""
    rows = []
    for many in range(most + 1):
        rows.extend([list(row) for row in itertools.product(numbers, repeat=many)])
    return list(itertools.product(rows, rows))


class Case(unittest.TestCase):

    def assert_stands(self, net, side, ones, others):
        self.assertIs(stands(net, side, (ones, others)), True, (net, side, ones, others))

    def assert_falls(self, net, side, ones, others):
        self.assertIs(stands(net, side, (ones, others)), False, (net, side, ones, others))


class Ordinary(Case):

    def test_by_the_names_of_the_interface(self):
        self.assertIs(stands(net=TWINS, side="linker", paper=([4], [6])), True)
        self.assertIs(outcome_stands(net=TWINS, told=("linker", ([4], [6]))), True)

    def test_twins_and_strands(self):
        for ones, others in (([4], [6]), ([6], [4])):
            self.assert_stands(TWINS, "linker", ones, others)
            self.assert_falls(TWINS, "cutter", ones, others)
            self.assert_stands(STRAND, "cutter", ones, others)
            self.assert_falls(STRAND, "linker", ones, others)

    def test_greater_and_lesser_papers(self):
        self.assert_stands(TWICE_TWINS, "linker", [2], [4])
        self.assert_stands(TWICE_TWINS, "linker", [2, 6], [4, 8])
        self.assert_stands(TWICE_TWINS, "linker", [2, 8], [4, 6])
        self.assert_stands(TWO_STRANDS, "cutter", [1, 3], [2, 4])
        self.assert_stands(TWO_STRANDS, "cutter", [2, 5], [1, 4])
        self.assert_stands(samples.EVERY_PAIR_OF_FOUR, "linker", [0, 2, 5], [1, 3, 4])

    def test_papers_of_outcomes(self):
        for net in samples.small_nets() + samples.NAMED + samples.nets_by(40, 14, 8) + samples.nets_by(40, 9, 6):
            told = outcome(net)
            if told[0] != "first":
                self.assert_stands(net, told[0], told[1][0], told[1][1])
                self.assert_stands(net, told[0], told[1][1], told[1][0])
                self.assert_falls(net, samples.other(told[0]), told[1][0], told[1][1])

    def test_all_pairs_of_lists_against_counting(self):
        nets = [TWINS, STRAND, samples.SAME_POLES, ((0, 1), [(4, 0, 1), (6, 0, 0)]), ((0, 1), [(0, 2, 3), (4, 2, 3)])]
        stood = []
        for net in nets:
            for paper in pairs_of([-1, 0, 4, 5, 6], 2):
                for side in samples.SIDES:
                    right = samples.is_paper(net, side, paper)
                    self.assertIs(stands(net, side, paper), right, (net, side, paper))
                    stood.append((side, right))
        self.assertEqual(len(set(stood)), 4)

    def test_all_rows_against_counting(self):
        stood = 0
        for net in samples.nets_by(6, 5, 4) + [TWICE_TWINS, TWO_STRANDS]:
            for paper in itertools.product(samples.rows_of(samples.with_thought(net)), repeat=2):
                for side in samples.SIDES:
                    right = samples.is_paper(net, side, paper)
                    self.assertIs(stands(net, side, paper), right, (net, side, paper))
                    stood += right
        self.assertGreater(stood, 20)


class Wrong(Case):
    """Each word of a paper broken, in papers that stand but for it."""

    def test_a_name_that_no_tie_has(self):
        for name in NUMBERS:
            self.assert_falls(TWINS, "linker", sorted([4, name]), [6])
            self.assert_falls(TWINS, "linker", [4], sorted([6, name]))
            self.assert_falls(TWINS, "linker", [name], [6])
            self.assert_falls(STRAND, "cutter", [4], sorted([6, name]))
            self.assert_falls(STRAND, "cutter", [name], [6])
            self.assert_falls(samples.ONE_PLACE, "linker", [name], [])
            self.assert_falls(samples.ONE_PLACE, "linker", [], [name])
            self.assert_falls(samples.NO_TIES, "cutter", [name], [])
            self.assert_falls(samples.NO_TIES, "cutter", [name], [name])

    def test_the_thought_tie(self):
        # Free, and reaching alike and reaching the thought tie; but it is none of the net.
        self.assert_falls(ONE_TIE, "linker", [-1], [4])
        self.assert_falls(ONE_TIE, "linker", [4], [-1])
        self.assert_falls(ONE_TIE, "cutter", [-1], [4])
        self.assert_falls(ONE_TIE, "cutter", [4], [-1])

    def test_not_sorted(self):
        self.assert_falls(TWICE_TWINS, "linker", [6, 2], [4, 8])
        self.assert_falls(TWICE_TWINS, "linker", [2, 6], [8, 4])
        self.assert_falls(TWO_STRANDS, "cutter", [3, 1], [2, 4])
        self.assert_falls(TWO_STRANDS, "cutter", [1, 3], [4, 2])

    def test_a_name_twice(self):
        self.assert_falls(TWINS, "linker", [4, 4], [6])
        self.assert_falls(TWINS, "linker", [4], [6, 6])
        self.assert_falls(TWINS, "linker", [4, 4], [6, 6])
        self.assert_falls(STRAND, "cutter", [4, 4], [6])
        self.assert_falls(STRAND, "cutter", [4], [6, 6])

    def test_a_name_in_both(self):
        self.assert_falls(TWINS, "linker", [4], [4])
        self.assert_falls(ONE_TIE, "linker", [4], [4])
        self.assert_falls(STRAND, "cutter", [6], [6])
        self.assert_falls(TWICE_TWINS, "linker", [2, 6], [4, 6])
        self.assert_falls(TWO_STRANDS, "cutter", [1, 3], [1, 4])

    def test_a_row_that_is_not_free(self):
        loops = ((0, 1), [(2, 0, 0), (4, 0, 1), (6, 0, 1), (7, 0, 1)])
        self.assert_falls(loops, "linker", [2, 4], [6])
        self.assert_falls(loops, "linker", [4], [2, 6])
        self.assert_falls(loops, "linker", [4, 7], [6])
        self.assert_falls(loops, "linker", [6], [4, 7])
        bridge = ((0, 2), [(2, 2, 5), (4, 0, 1), (6, 1, 2)])
        self.assert_falls(bridge, "cutter", [2, 4], [6])
        self.assert_falls(bridge, "cutter", [4], [2, 6])
        three = ((0, 3), [(2, 0, 1), (4, 1, 2), (6, 2, 3)])
        self.assert_stands(three, "cutter", [2], [6])
        self.assert_falls(three, "cutter", [2, 4], [6])
        self.assert_falls(three, "cutter", [6], [2, 4])

    def test_rows_that_do_not_reach_alike(self):
        self.assert_falls(TWICE_TWINS, "linker", [2, 6], [4])
        self.assert_falls(TWICE_TWINS, "linker", [2], [4, 8])
        self.assert_falls(TWICE_TWINS, "linker", [2], [])
        strands = ((0, 2), [(1, 0, 1), (2, 1, 2), (5, 2, 2)])
        self.assert_stands(strands, "cutter", [1], [2])
        self.assert_falls(strands, "cutter", [1, 5], [2])
        self.assert_falls(strands, "cutter", [1], [2, 5])
        # As many names in both rows, too.
        net = ((0, 1), [(1, 0, 1), (2, 0, 1), (3, 1, 2), (4, 1, 3)])
        self.assert_falls(net, "linker", [1, 3], [2, 4])
        net = ((0, 2), [(1, 0, 1), (2, 1, 2), (5, 2, 2), (6, 0, 0)])
        self.assert_falls(net, "cutter", [1, 5], [2, 6])

    def test_rows_that_do_not_reach_the_thought_tie(self):
        self.assert_falls(TWICE_TWINS, "linker", [6], [8])
        self.assert_falls(TWICE_TWINS, "linker", [], [])
        self.assert_falls(TWINS, "linker", [], [])
        self.assert_falls(STRAND, "cutter", [], [])
        away = ((0, 1), [(2, 0, 1), (6, 1, 2), (8, 1, 2), (9, 1, 2)])
        self.assert_falls(away, "cutter", [], [])
        round_away = ((0, 1), [(2, 0, 1), (6, 3, 4), (8, 3, 4)])
        self.assert_falls(round_away, "cutter", [6], [8])

    def test_not_in_another_net(self):
        self.assert_falls(ONE_TIE, "linker", [4], [6])
        self.assert_falls(TWINS, "cutter", [4], [6])
        self.assert_falls(STRAND, "linker", [4], [6])
        self.assert_falls(samples.EVERY_PAIR_OF_FOUR, "linker", [0, 1, 2], [3, 4, 5])


class Edges(Case):

    def test_empty_rows_stand_in_linked_and_parted_nets_alone(self):
        for net in samples.small_nets() + samples.NAMED + samples.nets_by(40, 9, 8):
            won = samples.won(net)
            for side in samples.SIDES:
                self.assertIs(stands(net, side, ([], [])), side == won, (net, side))

    def test_no_ties(self):
        self.assert_stands(samples.NO_TIES, "cutter", [], [])
        self.assert_falls(samples.NO_TIES, "linker", [], [])
        self.assert_stands(samples.ONE_PLACE, "linker", [], [])
        self.assert_falls(samples.ONE_PLACE, "cutter", [], [])

    def test_poles_the_same_place(self):
        self.assert_stands(samples.SAME_POLES, "linker", [0], [5])
        self.assert_falls(samples.SAME_POLES, "linker", [0], [])
        self.assert_falls(samples.SAME_POLES, "linker", [6], [1])
        self.assert_falls(samples.SAME_POLES, "cutter", [], [])

    def test_poles_that_no_tie_meets(self):
        self.assert_stands(samples.POLES_UNMET, "cutter", [3], [8])
        self.assert_falls(samples.POLES_UNMET, "cutter", [3, 4], [8])
        self.assert_falls(samples.POLES_UNMET, "linker", [], [])

    def test_fourteen_ties_and_eight_places(self):
        ones, others = [0, 1, 3, 5, 6, 8, 10], [2, 4, 7, 9, 11, 12, 13]
        self.assert_stands(samples.FULL, "linker", ones, others)
        for name in range(14):
            self.assert_falls(
                samples.FULL, "linker", [one for one in ones if one != name], [one for one in others if one != name])

    def test_sixty_figures(self):
        great = samples.SIXTY
        self.assert_stands(samples.GREAT, "cutter", [3], [great - 1])
        self.assert_falls(samples.GREAT, "cutter", [3], [great])
        self.assert_falls(samples.GREAT, "cutter", [3], [great + 1])

    def test_somewhat_beyond_the_bounds(self):
        net = samples.steps([2, 2, 2, 2, 2, 2, 2, 2, 2])
        names = samples.names(net)
        self.assert_stands(net, "linker", names[::2], names[1::2])
        self.assert_falls(net, "linker", names[::2], names[2::2])


class Outcomes(Case):

    def assert_told(self, net, told, right):
        self.assertIs(outcome_stands(net, told), right, (net, told))

    def test_what_is_told_stands(self):
        words = []
        for net in samples.small_nets() + samples.NAMED + samples.nets_by(30, 14, 8) + samples.nets_by(40, 8, 5):
            told = outcome(net)
            words.append(told[0])
            self.assert_told(net, told, True)
        self.assertEqual(len(set(words)), 3)

    def test_linker_and_cutter(self):
        self.assert_told(TWINS, ("linker", ([4], [6])), True)
        self.assert_told(TWINS, ("linker", ([6], [4])), True)
        self.assert_told(TWINS, ("cutter", ([4], [6])), False)
        self.assert_told(STRAND, ("cutter", ([4], [6])), True)
        self.assert_told(STRAND, ("linker", ([4], [6])), False)
        self.assert_told(TWICE_TWINS, ("linker", ([2], [4])), True)
        self.assert_told(samples.NO_TIES, ("cutter", ([], [])), True)
        self.assert_told(samples.ONE_PLACE, ("linker", ([], [])), True)

    def test_linker_and_cutter_with_papers_that_do_not_stand(self):
        for side, net in (("linker", TWINS), ("cutter", STRAND)):
            for paper in pairs_of([-1, 4, 5, 6], 2):
                self.assert_told(net, (side, paper), samples.is_paper(net, side, paper))
                self.assert_told(net, (samples.other(side), paper), False)
        self.assert_told(samples.NO_TIES, ("linker", ([], [])), False)
        self.assert_told(samples.ONE_PLACE, ("cutter", ([], [])), False)
        self.assert_told(ONE_TIE, ("linker", ([], [])), False)
        self.assert_told(ONE_TIE, ("cutter", ([], [])), False)

    def test_first(self):
        empty = ([], [])
        self.assert_told(ONE_TIE, ("first", (4, empty), (4, empty)), True)
        self.assert_told(ONE_TIE, ("first", (4, ([4], [])), (4, empty)), False)
        self.assert_told(ONE_TIE, ("first", (4, empty), (4, ([-1], []))), False)

    def test_first_with_ties_that_are_not_the_least(self):
        net = ((0, 2), [(1, 0, 1), (2, 0, 1), (9, 1, 2)])
        linker = (9, ([1], [2]))
        for step in ((1, ([2], [9])), (1, ([9], [2])), (2, ([1], [9])), (9, ([], []))):
            self.assert_told(net, ("first", linker, step), True)
        net = ((0, 2), [(1, 0, 1), (2, 1, 2), (9, 0, 2)])
        for step in ((1, ([2], [9])), (2, ([1], [9])), (9, ([], [])), (9, ([1], [2]))):
            self.assert_told(net, ("first", step, (9, ([1], [2]))), True)

    def test_first_with_ties_that_win_nothing(self):
        net = ((0, 2), [(1, 0, 1), (2, 0, 1), (9, 1, 2)])
        cutter = (9, ([], []))
        for tie in (1, 2):
            for paper in pairs_of([1, 2, 9], 2):
                self.assert_told(net, ("first", (tie, paper), cutter), False)

    def test_first_with_numbers_that_are_no_ties(self):
        empty = ([], [])
        for tie in NUMBERS + [0, 1]:
            self.assert_told(ONE_TIE, ("first", (tie, empty), (4, empty)), False)
            self.assert_told(ONE_TIE, ("first", (4, empty), (tie, empty)), False)
            self.assert_told(samples.NO_TIES, ("first", (tie, empty), (tie, empty)), False)

    def test_first_with_papers_of_the_net_itself(self):
        # The papers are those behind the ties, not of the net that is told of.
        net = ((0, 2), [(1, 0, 1), (2, 0, 1), (9, 1, 2)])
        self.assert_told(net, ("first", (9, ([1], [2])), (9, ([], []))), True)
        self.assert_told(net, ("first", (9, ([1], [9])), (9, ([], []))), False)
        self.assert_told(net, ("first", (9, ([1], [2])), (9, ([1], [9]))), False)
        self.assert_told(net, ("first", (9, ([1], [2])), (1, ([1], [9]))), False)

    def test_first_with_the_sides_changed(self):
        net = ((0, 2), [(1, 0, 1), (2, 0, 1), (9, 1, 2)])
        told = outcome(net)
        self.assert_told(net, told, True)
        self.assert_told(net, ("first", told[2], told[1]), False)

    def test_not_first_where_a_rule_has_a_paper(self):
        three = ((0, 1), [(1, 0, 1), (2, 0, 1), (3, 1, 2)])
        self.assertEqual(outcome(three)[0], "linker")
        self.assert_told(three, ("first", (1, ([], [])), (3, ([], []))), False)
        for net in [TWINS, STRAND, samples.SAME_POLES, samples.POLES_UNMET] + samples.nets_by(20, 6, 4):
            told = outcome(net)
            if told[0] == "first":
                continue
            steps = {"linker": [], "cutter": []}
            for side in samples.SIDES:
                for tie in samples.names(net):
                    behind = outcome(samples.behind(net, side, tie))
                    steps[side].append((tie, behind[1] if behind[0] == side else ([], [])))
            for one, other in itertools.product(steps["linker"], steps["cutter"]):
                self.assert_told(net, ("first", one, other), False)

    def test_first_of_linked_and_parted_nets(self):
        for net in (samples.SAME_POLES, samples.POLES_UNMET):
            tie = net[1][0][0]
            self.assert_told(net, ("first", (tie, ([], [])), (tie, ([], []))), False)

    def test_not_a_side_s_where_it_is_first(self):
        for net in samples.nets_by(25, 8, 5) + [ONE_TIE]:
            told = outcome(net)
            if told[0] == "first":
                for side, step in zip(samples.SIDES, told[1:]):
                    self.assert_told(net, (side, step[1]), False)

    def test_another_shape(self):
        self.assert_told(TWINS, ("second", ([4], [6])), False)
        self.assert_told(STRAND, ("", ([4], [6])), False)

    def test_sixty_figures(self):
        great = samples.SIXTY
        self.assert_told(samples.GREAT, ("cutter", ([3], [great - 1])), True)
        net = ((0, great), [(great, 0, great)])
        self.assert_told(net, ("first", (great, ([], [])), (great, ([], []))), True)
        self.assert_told(net, ("first", (great, ([], [])), (great + 1, ([], []))), False)


class KeptApart(Case):
    """What is handed in is left as it is, and the answer is always the same."""

    def papers(self):
        return [([4], [6]), ([6, 4], [4]), ([], []), ([-1, 77, 4, 4], [6])]

    def test_what_is_handed_in_stays(self):
        for kept in (TWINS, STRAND, TWICE_TWINS, samples.NO_TIES):
            for paper in self.papers():
                for side in samples.SIDES:
                    net, handed = copy.deepcopy(kept), copy.deepcopy(paper)
                    stands(net, side, handed)
                    self.assertEqual((net, handed), (kept, paper))
                    for told in ((side, paper), ("first", (4, paper), (6, paper))):
                        whole = copy.deepcopy(told)
                        outcome_stands(net, whole)
                        self.assertEqual((net, whole), (kept, told))

    def test_asked_again_the_answer_is_equal(self):
        for net in (TWINS, STRAND, TWICE_TWINS, samples.NO_TIES):
            for paper in self.papers():
                for side in samples.SIDES:
                    first = (stands(net, side, paper), outcome_stands(net, (side, paper)))
                    stands(samples.FULL, side, ([0], [1]))
                    outcome_stands(TWINS, ("first", (4, ([], [])), (4, ([], []))))
                    again = (stands(net, side, paper), outcome_stands(copy.deepcopy(net), (side, paper)))
                    self.assertEqual(again, first)

    def test_a_changed_paper_is_looked_at_anew(self):
        net, paper = copy.deepcopy(TWINS), ([4], [6])
        told = ("linker", paper)
        self.assertEqual((stands(net, "linker", paper), outcome_stands(net, told)), (True, True))
        paper[0].append(6)
        self.assertEqual((stands(net, "linker", paper), outcome_stands(net, told)), (False, False))
        paper[0].pop()
        net[1].pop()
        self.assertEqual((stands(net, "linker", paper), outcome_stands(net, told)), (False, False))


if __name__ == "__main__":
    unittest.main()
