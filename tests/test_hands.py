"""Papers mended, paper hands, and hands as a referee asks them."""

import copy
import itertools
import unittest

import cases
import samples
from linkorcut.errors import NoPaper, NotThere, Over
from linkorcut.hands import PaperHand, mended, paper_hand, wish_hand
from linkorcut.outcomes import outcome

TWINS = ((0, 1), [(4, 0, 1), (6, 0, 1)])
STRAND = ((0, 2), [(4, 0, 1), (6, 1, 2)])
ONE_TIE = ((0, 1), [(4, 0, 1)])
NUMBERS = [-1, -2, -(10 ** 60), 1000, samples.SIXTY, 10 ** 60, 10 ** 90]


def mended_by_words(net, side, paper, taken):
    """A paper mended, the ranks counted without the package."""
    counted = samples.RANKS[side]
    behind = net if taken is None else samples.behind(net, samples.other(side), taken)
    rows = (list(paper[0]), list(paper[1]))
    for hurt, whole in (rows, rows[::-1]):
        if taken in hurt:
            hurt.remove(taken)
            reached = samples.reach(behind, counted, hurt)
            answer = min([name for name in whole if name not in reached])
            whole.remove(answer)
            return (answer, rows)
    if rows == ([], []):
        return (min(samples.names(behind), default=None), rows)
    answer = min(rows[0])
    rows[0].remove(answer)
    left = samples.behind(behind, side, answer)
    reached = samples.reach(left, counted, rows[1])
    spare = []
    for name in rows[1]:
        if samples.reach(left, counted, [other for other in rows[1] if other != name]) == reached:
            spare.append(name)
    rows[1].remove(min(spare))
    return (answer, rows)


def behind_both(net, side, taken, answer):
    if taken is not None:
        net = samples.behind(net, samples.other(side), taken)
    return net if answer is None else samples.behind(net, side, answer)


def all_papers(net, side):
    """Every paper of a side that stands in a net."""
    rows = samples.rows_of(samples.names(net))
    return [paper for paper in itertools.product(rows, rows) if samples.is_paper(net, side, paper)]


def told_papers(nets):
    """Of each net whose outcome is a side's the side and its paper, both ways round."""
    for net in nets:
        told = outcome(net)
        if told[0] != "first":
            yield net, told[0], told[1]
            yield net, told[0], (told[1][1], told[1][0])


def wins_so(net, side, begins):
    word = outcome(net)[0]
    return word == side or (word == "first" and begins)


def sides_and_turns():
    return itertools.product(samples.SIDES, (True, False))


class Case(cases.Case):

    def assert_mended(self, net, side, paper, taken):
        told = mended(net, side, copy.deepcopy(paper), taken)
        where = (net, side, paper, taken, told)
        self.assertEqual(told, mended_by_words(net, side, paper, taken), where)
        kinds = [type(told), type(told[1]), type(told[1][0]), type(told[1][1])]
        self.assertEqual(kinds, [tuple, tuple, list, list], where)
        self.assertTrue(samples.is_paper(behind_both(net, side, taken, told[0]), side, told[1]), where)
        return told


class Mended(Case):

    def test_by_the_names_of_the_interface(self):
        told = mended(net=TWINS, side="linker", paper=([4], [6]), taken=6)
        self.assertEqual(told, (4, ([], [])))

    def test_twins(self):
        self.assertEqual(mended(TWINS, "linker", ([4], [6]), 4), (6, ([], [])))
        self.assertEqual(mended(TWINS, "linker", ([4], [6]), 6), (4, ([], [])))
        self.assertEqual(mended(TWINS, "linker", ([4], [6]), None), (4, ([], [])))
        self.assertEqual(mended(TWINS, "linker", ([6], [4]), None), (6, ([], [])))

    def test_a_strand(self):
        self.assertEqual(mended(STRAND, "cutter", ([4], [6]), 4), (6, ([], [])))
        self.assertEqual(mended(STRAND, "cutter", ([4], [6]), 6), (4, ([], [])))
        self.assertEqual(mended(STRAND, "cutter", ([6], [4]), None), (6, ([], [])))

    def test_a_taken_tie_of_a_row(self):
        net = samples.EVERY_PAIR_OF_FOUR
        # Without the tie 0 the place 1 is apart by the first row; of the second row the ties 3 and 4 lead there.
        self.assertEqual(mended(net, "linker", ([0, 2, 5], [1, 3, 4]), 0), (3, ([2, 5], [1, 4])))
        self.assertEqual(mended(net, "linker", ([1, 3, 4], [0, 2, 5]), 0), (3, ([1, 4], [2, 5])))
        # Without the tie 2 the places 0 and 1 are apart from 2 and 3; the ties 1, 3 and 4 lead there.
        self.assertEqual(mended(net, "linker", ([0, 2, 5], [1, 3, 4]), 2), (1, ([0, 5], [3, 4])))

    def test_a_taken_tie_of_neither_row(self):
        net = ((0, 1), [(2, 0, 1), (4, 0, 1), (5, 1, 1), (6, 1, 2), (8, 1, 2)])
        self.assertEqual(mended(net, "linker", ([2, 8], [4, 6]), 5), (2, ([8], [6])))
        self.assertEqual(mended(net, "linker", ([2], [4]), 6), (2, ([], [])))
        self.assertEqual(mended(net, "linker", ([2, 8], [4, 6]), None), (2, ([8], [6])))

    def test_the_least_spare_tie_goes(self):
        net = samples.EVERY_PAIR_OF_FOUR
        # Drawn together along 0, the second row has a round of 1 and 3.
        self.assertEqual(mended(net, "linker", ([0, 2, 5], [1, 3, 4]), None), (0, ([2, 5], [3, 4])))
        # Drawn together along 1, it has one of 2 and 5; the tie 0, the least, is not spare.
        self.assertEqual(mended(net, "linker", ([1, 3, 4], [0, 2, 5]), None), (1, ([3, 4], [0, 5])))

    def test_empty_rows(self):
        self.assertEqual(mended(samples.SAME_POLES, "linker", ([], []), None), (0, ([], [])))
        self.assertEqual(mended(samples.SAME_POLES, "linker", ([], []), 0), (1, ([], [])))
        self.assertEqual(mended(samples.SAME_POLES, "linker", ([], []), 5), (0, ([], [])))
        self.assertEqual(mended(samples.POLES_UNMET, "cutter", ([], []), None), (3, ([], [])))
        self.assertEqual(mended(samples.POLES_UNMET, "cutter", ([], []), 3), (4, ([], [])))

    def test_empty_rows_and_no_ties(self):
        self.assertEqual(mended(samples.ONE_PLACE, "linker", ([], []), None), (None, ([], [])))
        self.assertEqual(mended(samples.NO_TIES, "cutter", ([], []), None), (None, ([], [])))
        self.assertEqual(mended(((3, 3), [(7, 3, 3)]), "linker", ([], []), 7), (None, ([], [])))
        self.assertEqual(mended(((3, 5), [(7, 3, 3)]), "cutter", ([], []), 7), (None, ([], [])))

    def test_rows_that_are_not_empty_in_a_net_that_is_won(self):
        self.assertEqual(mended(samples.SAME_POLES, "linker", ([0], [5]), None), (0, ([], [])))
        self.assertEqual(mended(samples.SAME_POLES, "linker", ([0], [5]), 0), (5, ([], [])))
        self.assertEqual(mended(samples.POLES_UNMET, "cutter", ([8], [3]), 4), (8, ([], [])))

    def test_every_paper_of_small_nets_behind_every_tie(self):
        seen = []
        for net in samples.small_nets()[::5] + samples.nets_by(12, 5, 4) + samples.nets_by(6, 6, 4):
            for side in samples.SIDES:
                for paper in all_papers(net, side):
                    for taken in samples.names(net) + [None]:
                        self.assert_mended(net, side, paper, taken)
                        seen.append((side, taken in paper[0], taken in paper[1], paper == ([], []), taken is None))
        # For each side: a tie of the one row, of the other, of none of them or None, these with empty rows, too.
        self.assertEqual(len(set(seen)), 12)

    def test_told_papers_behind_every_tie(self):
        great = [samples.FULL] + samples.nets_by(12, 14, 8) + samples.nets_by(6, 14, 6)
        for net, side, paper in told_papers(samples.NAMED + great):
            for taken in samples.names(net) + [None]:
                self.assert_mended(net, side, paper, taken)

    def test_steps_and_strands(self):
        for counts in ([2, 2, 2], [3, 2, 2, 2], [2, 4]):
            for net, side, paper in told_papers([samples.steps(counts)]):
                for taken in samples.names(net) + [None]:
                    self.assert_mended(net, side, paper, taken)
        for counts in ([2, 2, 2], [3, 2, 2], [2, 4]):
            for net, side, paper in told_papers([samples.strands(counts)]):
                for taken in samples.names(net) + [None]:
                    self.assert_mended(net, side, paper, taken)

    def test_again_and_again(self):
        for at, (net, side, paper) in enumerate(told_papers(samples.nets_by(25, 12, 7))):
            taker = samples.drawn_answers(at)
            while net[1]:
                taken = taker(net, None)
                answer, told = self.assert_mended(net, side, paper, taken)
                net, paper = behind_both(net, side, taken, answer), told
            self.assertEqual(samples.won(net), side)

    def test_sixty_figures(self):
        great = samples.SIXTY
        self.assertEqual(mended(samples.GREAT, "cutter", ([3], [great - 1]), great - 1), (3, ([], [])))
        self.assertEqual(mended(samples.GREAT, "cutter", ([great - 1], [3]), great), (great - 1, ([], [])))

    def test_somewhat_beyond_the_bounds(self):
        net = samples.steps([2, 2, 2, 2, 2, 2, 2, 2, 2])
        names = samples.names(net)
        for taken in (None, names[0], names[17]):
            self.assert_mended(net, "linker", (names[::2], names[1::2]), taken)


class MendedRefused(Case):

    def assert_no_paper(self, net, side, paper, taken):
        kept = copy.deepcopy((net, paper))
        self.assert_refused(NoPaper, mended, net, side, paper, taken)
        self.assertEqual((net, paper), kept)

    def test_papers_that_do_not_stand(self):
        papers = [
            ([], []), ([4], []), ([4], [4]), ([4], [5]), ([4], [-1]), ([4, 4], [6]), ([4, 6], []), ([6, 4], [])]
        for net, side in ((TWINS, "linker"), (STRAND, "cutter")):
            for paper in papers:
                for taken in (None, 4, 6):
                    self.assert_no_paper(net, side, paper, taken)

    def test_papers_of_the_other_side(self):
        for taken in (None, 4):
            self.assert_no_paper(TWINS, "cutter", ([4], [6]), taken)
            self.assert_no_paper(STRAND, "linker", ([4], [6]), taken)
            self.assert_no_paper(samples.SAME_POLES, "cutter", ([], []), None)

    def test_ties_that_are_not_there(self):
        for net, side, paper in ((TWINS, "linker", ([4], [6])), (STRAND, "cutter", ([6], [4]))):
            for taken in NUMBERS + [0, 1, 5]:
                kept = copy.deepcopy((net, paper))
                self.assertEqual(self.assert_refused(NotThere, mended, net, side, paper, taken).tie, taken)
                self.assertEqual((net, paper), kept)

    def test_ties_that_are_not_there_with_empty_rows(self):
        for net, side in ((samples.ONE_PLACE, "linker"), (samples.NO_TIES, "cutter"), (samples.SAME_POLES, "linker")):
            for taken in NUMBERS:
                self.assertEqual(self.assert_refused(NotThere, mended, net, side, ([], []), taken).tie, taken)

    def test_no_paper_comes_first(self):
        for taken in NUMBERS + [5]:
            self.assert_no_paper(TWINS, "linker", ([4], [5]), taken)
            self.assert_no_paper(STRAND, "cutter", ([], []), taken)
            self.assert_no_paper(ONE_TIE, "linker", ([], []), taken)

    def test_a_number_in_the_paper_that_is_no_tie(self):
        self.assert_no_paper(TWINS, "linker", ([4, 9], [6]), 9)
        self.assert_no_paper(ONE_TIE, "linker", ([-1], [4]), -1)


class Followed(Case):
    """A paper hand beside which the net is kept without the package."""

    def start(self, net, side, begins):
        hand = PaperHand(net, side, begins)
        told = outcome(net)
        left, paper, opening = net, None, None
        if told[0] == "first":
            opening, paper = told[1 + samples.SIDES.index(side)]
            left = samples.behind(net, side, opening)
        elif begins and samples.won(net) is None:
            opening, paper = mended_by_words(net, side, told[1], None)
            left = samples.behind(net, side, opening)
        else:
            paper = told[1]
        self.assertEqual(hand.opening(), opening, (net, side, begins))
        self.assert_lies(hand, side, left, paper)
        return hand, left, paper

    def assert_lies(self, hand, side, left, paper):
        self.assertEqual(hand.lying(), left)
        self.assertEqual(hand.paper(), paper)
        self.assertTrue(samples.is_paper(left, side, paper), (left, side, paper))

    def step(self, hand, side, left, paper, taken):
        answer, paper = mended_by_words(left, side, paper, taken)
        self.assertEqual(hand.answer(taken), answer)
        left = behind_both(left, side, taken, answer)
        self.assert_lies(hand, side, left, paper)
        return left, paper

    def assert_wins_against_all(self, net, side, begins):
        """Goes through every row of answers, each played from the first deed on; tells how many there are."""
        many = 0
        rows = [[]]
        while rows:
            row = rows.pop()
            hand = PaperHand(net, side, begins)
            for taken in row:
                hand.answer(taken)
            lies = hand.lying()
            self.assertTrue(samples.is_paper(lies, side, hand.paper()), (net, side, begins, row))
            if samples.won(lies) is None:
                # There is a tie to take as long as the poles are neither joined nor parted.
                self.assertNotEqual(lies[1], [])
                rows.extend([row + [taken] for taken in samples.names(lies)])
            else:
                many += 1
                self.assertEqual(samples.won(lies), side, (net, side, begins, row))
        return many


class Openings(Followed):

    def test_by_the_names_of_the_interface(self):
        hand = PaperHand(net=TWINS, side="linker", begins=False)
        self.assertEqual(hand.answer(taken=4), 6)

    def test_first_begins_with_the_tie_of_the_outcome(self):
        net = ((0, 2), [(1, 0, 1), (2, 0, 1), (9, 1, 2)])
        hand = PaperHand(net, "linker", True)
        self.assertEqual(hand.opening(), 9)
        self.assertEqual(hand.lying(), ((0, 1), [(1, 0, 1), (2, 0, 1)]))
        self.assertEqual(hand.paper(), outcome(net)[1][1])
        hand = PaperHand(net, "cutter", True)
        self.assertEqual(hand.opening(), 1)
        self.assertEqual(hand.lying(), ((0, 2), [(2, 0, 1), (9, 1, 2)]))
        self.assertEqual(hand.paper(), outcome(net)[2][1])

    def test_its_own_net_begins_with_the_answer_to_none(self):
        hand = PaperHand(TWINS, "linker", True)
        self.assertEqual(hand.opening(), outcome(TWINS)[1][0][0])
        self.assertEqual(hand.paper(), ([], []))
        self.assertEqual(samples.won(hand.lying()), "linker")
        hand = PaperHand(STRAND, "cutter", True)
        self.assertEqual(hand.opening(), outcome(STRAND)[1][0][0])
        self.assertEqual(samples.won(hand.lying()), "cutter")

    def test_none_where_it_does_not_begin(self):
        for net, side in ((TWINS, "linker"), (STRAND, "cutter"), (samples.FULL, "linker")):
            hand = PaperHand(net, side, False)
            self.assertIsNone(hand.opening())
            self.assertEqual((hand.lying(), hand.paper()), (net, outcome(net)[1]))

    def test_none_in_linked_and_parted_nets(self):
        nets = [samples.SAME_POLES, samples.ONE_PLACE, samples.POLES_UNMET, samples.NO_TIES]
        for net in nets + samples.small_nets() + samples.nets_by(40, 8, 7):
            won = samples.won(net)
            if won is not None:
                for begins in (True, False):
                    hand = PaperHand(net, won, begins)
                    self.assertIsNone(hand.opening())
                    self.assertEqual((hand.lying(), hand.paper()), (net, outcome(net)[1]))

    def test_many_nets(self):
        for net in samples.small_nets() + samples.NAMED + samples.nets_by(20, 14, 8) + samples.nets_by(30, 7, 5):
            for side, begins in sides_and_turns():
                if wins_so(net, side, begins):
                    self.start(net, side, begins)

    def test_the_opening_stays_the_same(self):
        hand = PaperHand(samples.FULL, "linker", True)
        opening = hand.opening()
        hand.answer(hand.lying()[1][3][0])
        self.assertEqual(hand.opening(), opening)


class Played(Followed):

    def test_every_row_of_answers_on_small_nets(self):
        seen = {}
        for net in samples.small_nets()[::2] + samples.nets_by(20, 5, 4) + samples.nets_by(6, 6, 4):
            for side, begins in sides_and_turns():
                if wins_so(net, side, begins):
                    many = self.assert_wins_against_all(net, side, begins)
                    seen[(side, begins)] = max(many, seen.get((side, begins), 0))
        self.assertEqual(len(seen), 4)
        self.assertGreater(min(seen.values()), 5)

    def test_every_row_of_answers_on_greater_ones(self):
        self.assertGreater(self.assert_wins_against_all(samples.EVERY_PAIR_OF_FOUR, "linker", False), 20)
        self.assert_wins_against_all(samples.TWO_ROUNDS, "cutter", True)
        self.assert_wins_against_all(samples.steps([2, 2, 2]), "linker", False)
        self.assert_wins_against_all(samples.steps([2, 2, 1]), "cutter", True)
        self.assert_wins_against_all(samples.strands([2, 2, 2]), "cutter", False)
        self.assert_wins_against_all(samples.strands([3, 2, 1]), "linker", True)

    def test_drawn_answers_on_nets_of_fourteen_ties(self):
        played = []
        for at, net in enumerate([samples.FULL] + samples.nets_by(20, 14, 8) + samples.nets_by(10, 14, 6)):
            for side, begins in sides_and_turns():
                if wins_so(net, side, begins):
                    hand, left, paper = self.start(net, side, begins)
                    taker = samples.drawn_answers(at)
                    many = 0
                    while samples.won(left) is None:
                        left, paper = self.step(hand, side, left, paper, taker(left, None))
                        many += 1
                    self.assertEqual(samples.won(left), side, (net, side, begins))
                    played.append((side, begins, many > 1))
        self.assertEqual(len(set([each for each in played if each[2]])), 4)

    def test_many_drawn_answers_on_one_net(self):
        for seed in range(25):
            hand = PaperHand(samples.FULL, "linker", False)
            taker = samples.drawn_answers(seed)
            while samples.won(hand.lying()) is None:
                hand.answer(taker(hand.lying(), None))
                self.assertTrue(samples.is_paper(hand.lying(), "linker", hand.paper()))
            self.assertEqual(samples.won(hand.lying()), "linker")

    def test_steps_and_strands_of_fourteen_ties(self):
        games = [
            (samples.steps([2, 2, 2, 2, 2, 2, 2]), "linker", False),
            (samples.steps([3, 1, 2, 2, 2, 2, 2]), "linker", True),
            (samples.steps([4, 1, 3, 2, 1, 3]), "cutter", False), (samples.strands([3, 3, 3, 3]), "cutter", False),
            (samples.strands([2, 2, 2, 1, 2, 2, 3]), "cutter", True)]
        for at, (net, side, begins) in enumerate(games):
            hand, left, paper = self.start(net, side, begins)
            taker = samples.drawn_answers(at)
            while samples.won(left) is None:
                left, paper = self.step(hand, side, left, paper, taker(left, None))
            self.assertEqual(samples.won(left), side)

    def test_sixty_figures(self):
        great = samples.SIXTY
        hand = PaperHand(samples.GREAT, "cutter", False)
        self.assertEqual(hand.answer(3), great - 1)
        self.assertEqual(hand.lying(), ((great - 2, great - 1), [(great, 0, great - 2)]))
        self.assertEqual(self.assert_refused(Over, hand.answer, great).winner, "cutter")

    def test_somewhat_beyond_the_bounds(self):
        net = samples.steps([2, 2, 2, 2, 2, 2, 2, 2, 2])
        hand, left, paper = self.start(net, "linker", False)
        while samples.won(left) is None:
            left, paper = self.step(hand, "linker", left, paper, samples.names(left)[-1])
        self.assertEqual(samples.won(left), "linker")


class HandsRefused(Followed):

    def test_no_paper_where_the_side_does_not_win_so(self):
        seen = []
        for net in samples.small_nets() + samples.NAMED + samples.nets_by(30, 6, 4) + samples.nets_by(15, 14, 8):
            word = outcome(net)[0]
            for side, begins in sides_and_turns():
                if not wins_so(net, side, begins):
                    self.assert_refused(NoPaper, PaperHand, net, side, begins)
                    self.assert_refused(NoPaper, paper_hand, net, side, begins)
                    seen.append((word, side, begins))
        self.assertEqual(sorted(set(seen)), [
            ("cutter", "linker", False), ("cutter", "linker", True), ("first", "cutter", False),
            ("first", "linker", False), ("linker", "cutter", False), ("linker", "cutter", True)])

    def test_no_paper_in_linked_and_parted_nets(self):
        for begins in (True, False):
            self.assert_refused(NoPaper, PaperHand, samples.SAME_POLES, "cutter", begins)
            self.assert_refused(NoPaper, PaperHand, samples.ONE_PLACE, "cutter", begins)
            self.assert_refused(NoPaper, PaperHand, samples.POLES_UNMET, "linker", begins)
            self.assert_refused(NoPaper, PaperHand, samples.NO_TIES, "linker", begins)

    def assert_unchanged(self, hand, refusal, field, taken):
        kept = (hand.opening(), hand.paper(), hand.lying())
        self.assertEqual(self.assert_refused(refusal, hand.answer, taken).args, (field,))
        self.assertEqual((hand.opening(), hand.paper(), hand.lying()), kept)

    def test_not_there(self):
        for side, net in (("linker", samples.FULL), ("cutter", samples.strands([3, 3, 3, 3]))):
            for begins in (True, False):
                hand = PaperHand(net, side, begins)
                for taken in NUMBERS + [51, 99]:
                    self.assert_unchanged(hand, NotThere, taken, taken)
                if begins:
                    self.assert_unchanged(hand, NotThere, hand.opening(), hand.opening())
                taken = hand.lying()[1][0][0]
                answer = hand.answer(taken)
                self.assert_unchanged(hand, NotThere, taken, taken)
                self.assert_unchanged(hand, NotThere, answer, answer)

    def test_over(self):
        for net, side, begins in ((TWINS, "linker", True), (STRAND, "cutter", True)):
            hand = PaperHand(net, side, begins)
            for taken in [4, 6] + NUMBERS:
                self.assert_unchanged(hand, Over, side, taken)
                self.assertEqual(self.assert_refused(Over, hand.answer, taken).winner, side)

    def test_over_behind_the_last_answer(self):
        for net, side in ((TWINS, "linker"), (STRAND, "cutter")):
            hand = PaperHand(net, side, False)
            hand.answer(4)
            for taken in [4, 6] + NUMBERS:
                self.assert_unchanged(hand, Over, side, taken)

    def test_over_in_linked_and_parted_nets_comes_first(self):
        nets = [samples.SAME_POLES, samples.ONE_PLACE, samples.POLES_UNMET, samples.NO_TIES]
        for net in nets:
            side = samples.won(net)
            for begins in (True, False):
                hand = PaperHand(net, side, begins)
                for taken in samples.names(net) + NUMBERS:
                    self.assert_unchanged(hand, Over, side, taken)

    def test_a_play_goes_on_behind_a_refusal(self):
        hand, left, paper = self.start(samples.FULL, "linker", False)
        for taken in (3, 7, 0):
            if taken in samples.names(left):
                self.assert_unchanged(hand, NotThere, 99, 99)
                left, paper = self.step(hand, "linker", left, paper, taken)


class PaperHandsAsked(Followed):

    def test_by_the_names_of_the_interface(self):
        hand = paper_hand(net=TWINS, side="linker", begins=True)
        self.assertEqual(hand(TWINS, None), PaperHand(TWINS, "linker", True).opening())

    def test_the_opening_first(self):
        net = ((0, 2), [(1, 0, 1), (2, 0, 1), (9, 1, 2)])
        hand = paper_hand(net, "linker", True)
        self.assertEqual(hand(net, None), 9)
        self.assertEqual(hand(((0, 1), [(2, 0, 1)]), 1), 2)

    def test_the_answers_where_it_does_not_begin(self):
        self.assertEqual(paper_hand(TWINS, "linker", False)(((0, 1), [(6, 0, 1)]), 4), 6)
        self.assertEqual(paper_hand(STRAND, "cutter", False)(((0, 1), [(4, 0, 1)]), 6), 4)

    def test_as_a_paper_hand_answers(self):
        for at, net in enumerate(samples.nets_by(20, 12, 6)):
            for side, begins in sides_and_turns():
                if not wins_so(net, side, begins) or samples.won(net) is not None:
                    continue
                kept, hand = PaperHand(net, side, begins), paper_hand(net, side, begins)
                taker = samples.drawn_answers(at)
                if begins:
                    self.assertEqual(hand(net, None), kept.opening())
                while samples.won(kept.lying()) is None:
                    taken = taker(kept.lying(), None)
                    left = samples.behind(kept.lying(), samples.other(side), taken)
                    self.assertEqual(hand(left, taken), kept.answer(taken))

    def test_it_goes_by_the_taken_ties_alone(self):
        wrong = [samples.ONE_PLACE, samples.NO_TIES, samples.TWO_ROUNDS, ((0, 1), [(99, 0, 1)])]
        for side, net in (("linker", samples.FULL), ("cutter", samples.steps([4, 1, 3, 2, 1, 3]))):
            for begins in (True, False):
                kept, hand = PaperHand(net, side, begins), paper_hand(net, side, begins)
                if begins:
                    self.assertEqual(hand(wrong[0], None), kept.opening())
                many = 0
                while samples.won(kept.lying()) is None:
                    taken = samples.names(kept.lying())[-1]
                    self.assertEqual(hand(copy.deepcopy(wrong[many % 4]), taken), kept.answer(taken))
                    many += 1

    def test_the_opening_whatever_is_told_as_taken(self):
        hand = paper_hand(samples.FULL, "linker", True)
        kept = PaperHand(samples.FULL, "linker", True)
        self.assertEqual(hand(samples.FULL, 99), kept.opening())
        taken = kept.lying()[1][0][0]
        self.assertEqual(hand(samples.FULL, taken), kept.answer(taken))

    def test_no_opening_in_nets_that_are_won(self):
        for net in (samples.SAME_POLES, samples.POLES_UNMET):
            side = samples.won(net)
            hand = paper_hand(net, side, True)
            self.assertIsNone(hand(net, None))
            self.assertEqual(self.assert_refused(Over, hand, net, 0).winner, side)
            hand = paper_hand(net, side, False)
            self.assertEqual(self.assert_refused(Over, hand, net, 99).winner, side)

    def test_refused_as_paper_hands_are(self):
        hand = paper_hand(samples.FULL, "linker", False)
        kept = PaperHand(samples.FULL, "linker", False)
        for taken in (-1, 14, 99):
            self.assertEqual(self.assert_refused(NotThere, hand, samples.FULL, taken).tie, taken)
        self.assertEqual(hand(samples.FULL, 3), kept.answer(3))
        self.assertEqual(self.assert_refused(NotThere, hand, samples.FULL, 3).tie, 3)

    def test_it_wins(self):
        for at, net in enumerate(samples.nets_by(25, 10, 6) + [samples.FULL]):
            for side, begins in sides_and_turns():
                if wins_so(net, side, begins):
                    other, wishes = samples.other(side), samples.mixed(samples.names(net), 3)
                    for against in (samples.drawn_answers(at), wish_hand([]), wish_hand(wishes)):
                        hands = {side: paper_hand(net, side, begins), other: against}
                        self.assertEqual(samples.referee(net, side if begins else other, hands)[0], side)

    def test_both_by_papers(self):
        net = samples.steps([2, 1, 2])
        for begins in samples.SIDES:
            self.assert_refused(NoPaper, paper_hand, net, samples.other(begins), False)
            hands = {begins: paper_hand(net, begins, True), samples.other(begins): wish_hand([7])}
            self.assertEqual(samples.referee(net, begins, hands)[0], begins)


class WishHands(Case):

    def test_by_the_names_of_the_interface(self):
        self.assertEqual(wish_hand(numbers=[6])(TWINS, None), 6)

    def test_the_first_that_is_there(self):
        net = ((0, 3), [(2, 0, 1), (4, 1, 2), (7, 2, 3)])
        self.assertEqual(wish_hand([7, 2])(net, None), 7)
        self.assertEqual(wish_hand([2, 7])(net, None), 2)
        self.assertEqual(wish_hand([9, 3, 4, 2])(net, None), 4)
        self.assertEqual(wish_hand([0, 1, 7, 7, 2])(net, 2), 7)

    def test_else_the_least(self):
        net = ((0, 3), [(2, 0, 1), (4, 1, 2), (7, 2, 3)])
        for numbers in ([], [3], [0, 1, 8], NUMBERS):
            self.assertEqual(wish_hand(numbers)(net, None), 2)

    def test_it_goes_by_the_net_alone(self):
        hand = wish_hand([7, 4])
        nets = [((0, 3), [(2, 0, 1), (4, 1, 2), (7, 2, 3)]), ((0, 3), [(2, 0, 1), (4, 1, 2)]), ((0, 3), [(2, 0, 1)])]
        for turn in range(3):
            for taken in (None, 7, 4, 99, -1):
                self.assertEqual([hand(net, taken) for net in nets], [7, 4, 2])
                self.assertEqual([hand(net, taken) for net in nets[::-1]], [2, 4, 7])

    def test_linked_and_parted_nets(self):
        self.assertEqual(wish_hand([5])(samples.SAME_POLES, None), 5)
        self.assertEqual(wish_hand([])(samples.SAME_POLES, None), 0)
        self.assertEqual(wish_hand([9, 8])(samples.POLES_UNMET, 3), 8)
        self.assertEqual(wish_hand([9])(samples.POLES_UNMET, 3), 3)

    def test_sixty_figures(self):
        great = samples.SIXTY
        self.assertEqual(wish_hand([great + 1, great])(samples.GREAT, None), great)
        self.assertEqual(wish_hand([great + 1])(samples.GREAT, None), 3)


class KeptApart(Followed):
    """What is handed in and what is told change nothing in one another."""

    def test_what_is_handed_in_stays(self):
        for kept, side, paper in told_papers(samples.NAMED):
            for taken in samples.names(kept) + [None]:
                net, handed = copy.deepcopy(kept), copy.deepcopy(paper)
                mended(net, side, handed, taken)
                self.assertEqual((net, handed), (kept, paper))
            for begins in (True, False):
                net = copy.deepcopy(kept)
                hand = PaperHand(net, side, begins)
                if samples.won(hand.lying()) is None:
                    hand.answer(hand.lying()[1][-1][0])
                self.assertEqual(net, kept)

    def test_nets_handed_to_hands_stay(self):
        numbers = [9, 6, 4]
        wish = wish_hand(numbers)
        for kept in (TWINS, STRAND, samples.SAME_POLES, samples.FULL):
            net = copy.deepcopy(kept)
            wish(net, None)
            self.assertEqual((net, numbers), (kept, [9, 6, 4]))
        net = copy.deepcopy(TWINS)
        paper_hand(TWINS, "linker", True)(net, None)
        paper_hand(TWINS, "linker", False)(net, 4)
        self.assertEqual(net, TWINS)

    def test_a_mended_paper_is_the_asker_s_own(self):
        papers = [(samples.EVERY_PAIR_OF_FOUR, ([0, 2, 5], [1, 3, 4])), (samples.SAME_POLES, ([], []))]
        side = "linker"
        for net, paper in papers:
            for taken in samples.names(net) + [None]:
                handed = copy.deepcopy(paper)
                one, other = mended(net, side, handed, taken), mended(net, side, handed, taken)
                self.assertEqual(one, other)
                self.assertIsNot(one, other)
                self.assertIsNot(one[1], other[1])
                rows = one[1] + other[1] + handed
                self.assertEqual(len({id(row) for row in rows}), 6)
                one[1][0].append(77)
                one[1][1].clear()
                self.assertEqual((mended(net, side, handed, taken), handed), (other, paper))

    def test_a_mended_paper_does_not_hang_on_the_one_handed_in(self):
        net, paper = copy.deepcopy(samples.EVERY_PAIR_OF_FOUR), ([0, 2, 5], [1, 3, 4])
        told = mended(net, "linker", paper, 0)
        kept = copy.deepcopy(told)
        paper[0].clear()
        paper[1].append(9)
        net[1].clear()
        self.assertEqual(told, kept)

    def test_a_paper_hand_keeps_its_own_net(self):
        for begins in (True, False):
            net = copy.deepcopy(samples.FULL)
            hand, asked = PaperHand(net, "linker", begins), paper_hand(net, "linker", begins)
            kept = PaperHand(samples.FULL, "linker", begins)
            net[1].clear()
            self.assertEqual((hand.lying(), hand.paper()), (kept.lying(), kept.paper()))
            if begins:
                self.assertEqual(asked(net, None), kept.opening())
            while samples.won(kept.lying()) is None:
                taken = samples.names(kept.lying())[0]
                answer = kept.answer(taken)
                net[1].append((taken, 0, 7))
                self.assertEqual((hand.answer(taken), asked(net, taken)), (answer, answer))
                self.assertEqual((hand.lying(), hand.paper()), (kept.lying(), kept.paper()))

    def test_what_a_paper_hand_tells_is_the_asker_s_own(self):
        for begins in (True, False):
            hand, kept = PaperHand(samples.FULL, "linker", begins), PaperHand(samples.FULL, "linker", begins)
            early = [copy.deepcopy(hand.lying()), copy.deepcopy(hand.paper())]
            told = [hand.lying(), hand.paper()]
            while samples.won(kept.lying()) is None:
                hand.lying()[1].clear()
                hand.lying()[1].append((99, 0, 7))
                hand.paper()[0].append(99)
                hand.paper()[1].clear()
                taken = samples.names(kept.lying())[-1]
                self.assertEqual(hand.answer(taken), kept.answer(taken))
                self.assertEqual((hand.lying(), hand.paper()), (kept.lying(), kept.paper()))
            self.assertEqual(told, early)

    def test_told_lists_are_new_each_time(self):
        for net in (samples.FULL, samples.SAME_POLES, samples.ONE_PLACE):
            hand = PaperHand(net, "linker", False)
            one, other = hand.lying(), hand.lying()
            self.assertIsNot(one, other)
            self.assertIsNot(one[0], other[0])
            self.assertIsNot(one[1], other[1])
            self.assertEqual([tie for tie, twin in zip(one[1], other[1]) if tie is twin], [])
            self.assertIsNot(one[1], net[1])
            one, other = hand.paper(), hand.paper()
            self.assertIsNot(one, other)
            self.assertEqual(len({id(row) for row in one + other}), 4)

    def test_a_wish_hand_keeps_its_own_numbers(self):
        numbers = [6]
        hand = wish_hand(numbers)
        numbers[0] = 4
        self.assertEqual(hand(TWINS, None), 6)
        numbers.clear()
        self.assertEqual(hand(TWINS, None), 6)

    def test_hands_do_not_meddle(self):
        one, other = PaperHand(samples.FULL, "linker", True), PaperHand(samples.FULL, "linker", True)
        kept = (other.opening(), other.lying(), other.paper())
        one.answer(samples.names(one.lying())[0])
        self.assertEqual((other.opening(), other.lying(), other.paper()), kept)
        first, second = paper_hand(samples.FULL, "linker", True), paper_hand(samples.FULL, "linker", True)
        opening = first(samples.FULL, None)
        first(samples.FULL, samples.names(other.lying())[0])
        self.assertEqual(second(samples.FULL, None), opening)

    def test_asked_again_the_answer_is_equal(self):
        for at, net in enumerate(samples.nets_by(15, 10, 6)):
            for side, begins in sides_and_turns():
                if wins_so(net, side, begins):
                    told = []
                    for turn in range(2):
                        hand, taker = PaperHand(copy.deepcopy(net), side, begins), samples.drawn_answers(at)
                        told.append([hand.opening(), hand.paper(), hand.lying()])
                        while samples.won(hand.lying()) is None:
                            told[-1].append((hand.answer(taker(hand.lying(), None)), hand.paper(), hand.lying()))
                        PaperHand(samples.FULL, "linker", True).answer(3)
                    self.assertEqual(told[0], told[1])


if __name__ == "__main__":
    unittest.main()
