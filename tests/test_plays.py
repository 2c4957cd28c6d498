"""Plays, deed by deed, and the referee."""

import copy
import itertools
import unittest

import cases
import samples
from linkorcut.errors import NotThere, OtherTurn, Over
from linkorcut.hands import paper_hand, wish_hand
from linkorcut.outcomes import winner
from linkorcut.plays import Play, refereed

TWINS = ((0, 1), [(4, 0, 1), (6, 0, 1)])
STRAND = ((0, 2), [(4, 0, 1), (6, 1, 2)])
OVER_AT_FIRST = [samples.SAME_POLES, samples.ONE_PLACE, samples.POLES_UNMET, samples.NO_TIES]
NUMBERS = [-1, -2, -(10 ** 60), 1000, samples.SIXTY, 10 ** 60, 10 ** 90]


def all_at_once(net, deeds):
    """The net behind deeds, those of the linker drawn together in one step."""
    out = [tie for side, tie in deeds if side == "cutter"]
    kept = [tie for side, tie in deeds if side == "linker"]
    return samples.drawn((net[0], [tie for tie in net[1] if tie[0] not in out]), kept)


def many_nets():
    nets = samples.small_nets()[::4] + samples.NAMED + samples.nets_by(30, 7, 5)
    return nets + samples.nets_by(25, 14, 8) + samples.nets_by(10, 14, 5)


class Case(cases.Case):

    def assert_lies(self, play, net, turn, deeds):
        """Looks at all that a play tells."""
        self.assertEqual(play.lying(), net)
        self.assertEqual(play.turn(), turn)
        self.assertEqual(play.won(), samples.won(net))
        self.assertEqual(play.deeds(), deeds)

    def assert_unchanged(self, play, refusal, side, tie):
        kept = (play.lying(), play.turn(), play.won(), play.deeds())
        self.assert_refused_with(refusal, play.deed, side, tie)
        self.assertEqual((play.lying(), play.turn(), play.won(), play.deeds()), kept)

    def played_out(self, net, begins, seed):
        """Plays drawn ties to the end, each deed looked at; tells the play and its deeds."""
        play, left, side, deeds = Play(net, begins), net, begins, []
        taker = samples.drawn_answers(seed)
        self.assert_lies(play, left, side, deeds)
        while samples.won(left) is None:
            tie = taker(left, None)
            left = samples.behind(left, side, tie)
            deeds.append((side, tie))
            self.assertEqual(play.deed(side, tie), left)
            side = samples.other(side)
            self.assert_lies(play, left, side, deeds)
            self.assertEqual(left, all_at_once(net, deeds))
        return play, deeds


class Deeds(Case):

    def test_by_the_names_of_the_interface(self):
        play = Play(net=TWINS, begins="cutter")
        self.assertEqual(play.deed(side="cutter", tie=4), ((0, 1), [(6, 0, 1)]))

    def test_a_play_that_the_linker_wins(self):
        play = Play(TWINS, "cutter")
        self.assert_lies(play, TWINS, "cutter", [])
        self.assertIsNone(play.won())
        self.assertEqual(play.deed("cutter", 6), ((0, 1), [(4, 0, 1)]))
        self.assert_lies(play, ((0, 1), [(4, 0, 1)]), "linker", [("cutter", 6)])
        self.assertEqual(play.deed("linker", 4), ((0, 0), []))
        self.assert_lies(play, ((0, 0), []), "cutter", [("cutter", 6), ("linker", 4)])
        self.assertEqual(play.won(), "linker")

    def test_a_play_that_the_cutter_wins(self):
        play = Play(STRAND, "linker")
        self.assertEqual(play.deed("linker", 6), ((0, 1), [(4, 0, 1)]))
        self.assertEqual(play.deed("cutter", 4), ((0, 1), []))
        self.assert_lies(play, ((0, 1), []), "linker", [("linker", 6), ("cutter", 4)])
        self.assertEqual(play.won(), "cutter")

    def test_over_as_soon_as_it_is_linked_or_parted(self):
        play = Play(samples.FULL, "linker")
        play.deed("linker", 13)
        self.assertEqual(play.won(), "linker")
        play = Play(samples.TWO_ROUNDS, "cutter")
        play.deed("cutter", 4)
        self.assertEqual(play.won(), "cutter")
        self.assertEqual(len(play.lying()[1]), 7)

    def test_the_turn_goes_on_also_where_it_is_over(self):
        for begins in samples.SIDES:
            play = Play(((0, 1), [(9, 0, 1), (10, 1, 1)]), begins)
            play.deed(begins, 9)
            self.assertEqual((play.won(), play.turn()), (begins, samples.other(begins)))

    def test_a_side_takes_ties_that_join_a_place_to_itself(self):
        play = Play(samples.LOOPS_AND_TWINS, "linker")
        play.deed("linker", 4)
        play.deed("cutter", 10)
        left = [tie for tie in samples.LOOPS_AND_TWINS[1] if tie[0] not in (4, 10)]
        self.assert_lies(play, ((1, 3), left), "linker", [("linker", 4), ("cutter", 10)])

    def test_drawn_ties(self):
        seen = []
        for at, net in enumerate(many_nets()):
            for begins in samples.SIDES:
                play, deeds = self.played_out(net, begins, at)
                self.assertIn(play.won(), samples.SIDES)
                if deeds:
                    self.assertEqual(play.won(), deeds[-1][0])
                    seen.append((begins, play.won()))
        self.assertEqual(len(set(seen)), 4)

    def test_every_row_of_deeds_of_small_nets(self):
        for net in samples.nets_by(6, 4, 3) + [samples.steps([2, 1, 1]), samples.strands([2, 1, 1])]:
            for begins in samples.SIDES:
                for row in itertools.permutations(samples.names(net)):
                    play, left, side = Play(net, begins), net, begins
                    for tie in row:
                        if samples.won(left) is not None:
                            break
                        left = samples.behind(left, side, tie)
                        self.assertEqual(play.deed(side, tie), left)
                        side = samples.other(side)
                    # Never over for want of ties: behind all of them one side has won.
                    self.assertEqual(play.won(), samples.won(left))
                    self.assertIn(play.won(), samples.SIDES)


class Edges(Case):

    def test_over_before_the_first_deed(self):
        for net, side in zip(OVER_AT_FIRST, ["linker", "linker", "cutter", "cutter"], strict=True):
            for begins in samples.SIDES:
                play = Play(net, begins)
                self.assert_lies(play, net, begins, [])
                self.assertEqual(play.won(), side)

    def test_fourteen_ties_and_eight_places(self):
        self.assertEqual((len(samples.FULL[1]), len(samples.places(samples.FULL))), (14, 8))
        for seed in range(10):
            for begins in samples.SIDES:
                self.played_out(samples.FULL, begins, seed)

    def test_sixty_figures(self):
        great = samples.SIXTY
        play = Play(samples.GREAT, "linker")
        left = ((great - 2, great), [(3, great - 2, great), (great, 0, great)])
        self.assertEqual(play.deed("linker", great - 1), left)
        self.assert_lies(play, left, "cutter", [("linker", great - 1)])
        self.assert_unchanged(play, NotThere(great - 1), "cutter", great - 1)
        self.assertEqual(play.deed("cutter", 3), ((great - 2, great), [(great, 0, great)]))
        self.assert_unchanged(play, Over("cutter"), "linker", great)

    def test_somewhat_beyond_the_bounds(self):
        for net in (samples.steps([2] * 9), samples.strands([5, 5, 6]), ((0, 10 ** 61), [(10 ** 62, 0, 10 ** 61)])):
            for begins in samples.SIDES:
                self.played_out(net, begins, 4)


class Refused(Case):

    def test_the_other_side_s_turn(self):
        for begins in samples.SIDES:
            play = Play(samples.FULL, begins)
            self.assert_unchanged(play, OtherTurn(begins), samples.other(begins), 3)
            play.deed(begins, 3)
            self.assert_unchanged(play, OtherTurn(samples.other(begins)), begins, 4)

    def test_not_there(self):
        for begins in samples.SIDES:
            play = Play(samples.FULL, begins)
            for tie in NUMBERS + [14]:
                self.assert_unchanged(play, NotThere(tie), begins, tie)
            play.deed(begins, 3)
            for tie in NUMBERS + [14, 3]:
                self.assert_unchanged(play, NotThere(tie), samples.other(begins), tie)

    def test_over(self):
        for net, first, second in ((TWINS, "cutter", "linker"), (STRAND, "linker", "cutter")):
            play = Play(net, first)
            play.deed(first, 4)
            play.deed(second, 6)
            for side in samples.SIDES:
                for tie in [4, 6] + NUMBERS:
                    self.assert_unchanged(play, Over(second), side, tie)

    def test_over_with_ties_left(self):
        play = Play(samples.FULL, "linker")
        play.deed("linker", 13)
        for side in samples.SIDES:
            for tie in samples.names(samples.FULL) + NUMBERS:
                self.assert_unchanged(play, Over("linker"), side, tie)

    def test_over_before_the_first_deed(self):
        for net in OVER_AT_FIRST:
            for begins, side in itertools.product(samples.SIDES, samples.SIDES):
                play = Play(net, begins)
                for tie in samples.names(net) + NUMBERS:
                    self.assert_unchanged(play, Over(samples.won(net)), side, tie)

    def test_the_other_side_s_turn_comes_ahead_of_not_there(self):
        for begins in samples.SIDES:
            play = Play(TWINS, begins)
            for tie in NUMBERS + [5]:
                self.assert_unchanged(play, OtherTurn(begins), samples.other(begins), tie)

    def test_every_refusal_along_drawn_plays(self):
        for at, net in enumerate(samples.nets_by(20, 9, 6)):
            play, taker = Play(net, "cutter"), samples.drawn_answers(at)
            while play.won() is None:
                turn = play.turn()
                gone = [tie for tie in samples.names(net) if tie not in samples.names(play.lying())]
                for tie in samples.names(net) + [999]:
                    self.assert_unchanged(play, OtherTurn(turn), samples.other(turn), tie)
                for tie in gone + [999]:
                    self.assert_unchanged(play, NotThere(tie), turn, tie)
                play.deed(turn, taker(play.lying(), None))
            for side, tie in itertools.product(samples.SIDES, samples.names(net) + [999]):
                self.assert_unchanged(play, Over(samples.won(play.lying())), side, tie)

    def test_a_play_goes_on_behind_a_refusal(self):
        play = Play(STRAND, "linker")
        self.assert_unchanged(play, OtherTurn("linker"), "cutter", 4)
        play.deed("linker", 4)
        self.assert_unchanged(play, NotThere(4), "cutter", 4)
        play.deed("cutter", 6)
        self.assertEqual((play.won(), play.deeds()), ("cutter", [("linker", 4), ("cutter", 6)]))


def noted(hand, notes):
    """The same hand, which notes what it was handed."""
    def asked(net, taken):
        notes.append((copy.deepcopy(net), taken))
        return hand(net, taken)
    return asked


def meddling(hand):
    """The same hand, which spoils the net that it was handed."""
    def asked(net, taken):
        tie = hand(net, taken)
        net[1].clear()
        net[1].append((77, 0, 0))
        return tie
    return asked


def never(net, taken):
    raise AssertionError("asked, though it is not its turn")


class Referee(Case):

    def assert_refereed(self, net, begins, hands):
        """Holds the referee against one of the tests' own; the hands are made anew for each."""
        told = refereed(net, begins, hands["linker"](), hands["cutter"]())
        found = samples.referee(net, begins, {side: hands[side]() for side in samples.SIDES})
        self.assertEqual(told, found, (net, begins))
        kinds = [type(told), type(told[1])] + [type(deed) for deed in told[1]]
        self.assertEqual(kinds, [tuple, list] + [tuple] * len(told[1]))
        return told

    def test_by_the_names_of_the_interface(self):
        told = refereed(net=TWINS, begins="cutter", linker=wish_hand([4]), cutter=wish_hand([4]))
        self.assertEqual(told, ("linker", [("cutter", 4), ("linker", 6)]))

    def test_each_side_begins(self):
        wish = wish_hand([6, 4])
        self.assertEqual(refereed(TWINS, "linker", wish, wish), ("linker", [("linker", 6)]))
        self.assertEqual(refereed(TWINS, "cutter", wish, wish), ("linker", [("cutter", 6), ("linker", 4)]))
        self.assertEqual(refereed(STRAND, "linker", wish, wish), ("cutter", [("linker", 6), ("cutter", 4)]))
        self.assertEqual(refereed(STRAND, "cutter", wish, wish), ("cutter", [("cutter", 6)]))

    def test_each_hand_for_its_side(self):
        net = ((0, 2), [(1, 0, 1), (2, 0, 1), (3, 1, 2), (4, 1, 2)])
        downward, upward = wish_hand([4, 3, 2, 1]), wish_hand([])
        deeds = [("cutter", 1), ("linker", 4), ("cutter", 2)]
        self.assertEqual(refereed(net, "cutter", downward, upward), ("cutter", deeds))
        deeds = [("linker", 1), ("cutter", 4), ("linker", 2), ("cutter", 3)]
        self.assertEqual(refereed(net, "linker", upward, downward), ("cutter", deeds))
        self.assertEqual(refereed(TWINS, "linker", wish_hand([6]), never), ("linker", [("linker", 6)]))
        self.assertEqual(refereed(STRAND, "cutter", never, wish_hand([6])), ("cutter", [("cutter", 6)]))

    def test_wish_hands(self):
        seen = []
        for at, net in enumerate(many_nets()):
            wishes = [samples.mixed(samples.names(net), 2 * at), samples.mixed(samples.names(net), 2 * at + 1)[::2]]
            for begins in samples.SIDES:
                hands = {"linker": lambda: wish_hand(wishes[0]), "cutter": lambda: wish_hand(wishes[1])}
                seen.append((begins, self.assert_refereed(net, begins, hands)[0]))
        self.assertEqual(len(set(seen)), 4)

    def test_hands_of_paper_hands(self):
        seen = []
        for at, net in enumerate(many_nets()):
            for begins in samples.SIDES:
                side = winner(net, begins)
                other = samples.other(side)
                against = [
                    lambda: samples.drawn_answers(at), lambda: wish_hand([]),
                    lambda: wish_hand(samples.mixed(samples.names(net), at))]
                for hand in against:
                    hands = {side: lambda: paper_hand(net, side, side == begins), other: hand}
                    told = self.assert_refereed(net, begins, hands)
                    self.assertEqual(told[0], side)
                    seen.append((begins, side, len(told[1]) > 3))
        self.assertEqual(len(set(seen)), 8)

    def test_what_a_hand_is_handed(self):
        for at, net in enumerate(samples.nets_by(20, 10, 6)):
            for begins in samples.SIDES:
                notes = {"linker": [], "cutter": []}
                hands = [noted(samples.drawn_answers(at + 7), notes["linker"]), noted(wish_hand([]), notes["cutter"])]
                won, deeds = refereed(net, begins, hands[0], hands[1])
                left, taken, found = net, None, {"linker": [], "cutter": []}
                for side, tie in deeds:
                    found[side].append((left, taken))
                    left, taken = samples.behind(left, side, tie), tie
                self.assertEqual(notes, found)
                self.assertEqual(samples.won(left), won)

    def test_none_is_handed_at_first_alone(self):
        notes = []
        refereed(TWINS, "cutter", noted(wish_hand([]), notes), noted(wish_hand([6]), notes))
        self.assertEqual(notes, [(TWINS, None), (((0, 1), [(4, 0, 1)]), 6)])

    def test_not_asked_where_it_is_over(self):
        for net, side in zip(OVER_AT_FIRST, ["linker", "linker", "cutter", "cutter"], strict=True):
            for begins in samples.SIDES:
                self.assertEqual(refereed(net, begins, never, never), (side, []))

    def test_hands_that_begin_in_a_net_that_is_over(self):
        for net in OVER_AT_FIRST:
            side = samples.won(net)
            for begins in samples.SIDES:
                hands = {side: paper_hand(net, side, side == begins), samples.other(side): never}
                self.assertEqual(refereed(net, begins, hands["linker"], hands["cutter"]), (side, []))

    def test_what_a_hand_does_to_its_net_changes_nothing(self):
        for at, kept in enumerate(samples.nets_by(15, 10, 6) + [samples.FULL]):
            for begins in samples.SIDES:
                plain = [samples.drawn_answers(at), wish_hand([5, 40, 90])]
                told = refereed(kept, begins, plain[0], plain[1])
                net = copy.deepcopy(kept)
                hands = [meddling(samples.drawn_answers(at)), meddling(wish_hand([5, 40, 90]))]
                self.assertEqual(refereed(net, begins, hands[0], hands[1]), told)
                self.assertEqual(net, kept)

    def test_nets_that_hands_keep_stay(self):
        kept, early = [], []

        def hand(net, taken):
            kept.append(net)
            early.append(copy.deepcopy(net))
            return samples.names(net)[0]

        refereed(samples.FULL, "cutter", hand, hand)
        self.assertGreater(len(kept), 2)
        self.assertEqual(kept, early)
        self.assert_new(samples.FULL, *kept)

    def test_a_tie_that_is_not_there(self):
        for begins in samples.SIDES:
            for tie in NUMBERS + [14]:
                wrong = {begins: lambda net, taken: tie, samples.other(begins): never}
                self.assert_refused_with(
                    NotThere(tie), refereed, samples.FULL, begins, wrong["linker"], wrong["cutter"])

    def test_a_tie_that_was_taken(self):
        def same(net, taken):
            return taken

        for begins in samples.SIDES:
            hands = {begins: wish_hand([3]), samples.other(begins): same}
            self.assert_refused_with(NotThere(3), refereed, samples.FULL, begins, hands["linker"], hands["cutter"])

    def test_one_s_own_tie_again(self):
        def stubborn(net, taken):
            return 4

        for begins in samples.SIDES:
            hands = {begins: stubborn, samples.other(begins): wish_hand([])}
            self.assert_refused_with(NotThere(4), refereed, samples.FULL, begins, hands["linker"], hands["cutter"])

    def test_what_a_hand_refuses_is_refused(self):
        spent = paper_hand(TWINS, "linker", True)
        self.assertEqual(refereed(TWINS, "linker", spent, never)[0], "linker")
        self.assert_refused_with(Over("linker"), refereed, TWINS, "cutter", spent, wish_hand([]))

    def test_somewhat_beyond_the_bounds(self):
        for net in (samples.steps([2] * 9), samples.strands([5, 5, 6])):
            for begins in samples.SIDES:
                side = winner(net, begins)
                hands = {
                    side: lambda: paper_hand(net, side, side == begins),
                    samples.other(side): lambda: samples.drawn_answers(3)}
                self.assertEqual(self.assert_refereed(net, begins, hands)[0], side)

    def test_sixty_figures(self):
        great = samples.SIXTY
        told = refereed(samples.GREAT, "linker", wish_hand([great - 1]), wish_hand([]))
        self.assertEqual(told, ("cutter", [("linker", great - 1), ("cutter", 3)]))


class KeptApart(Case):
    """What is handed in and what is told change nothing in one another."""

    def test_what_is_handed_in_stays(self):
        for at, kept in enumerate(samples.NAMED + samples.nets_by(10, 9, 6)):
            for begins in samples.SIDES:
                net = copy.deepcopy(kept)
                self.played_out(net, begins, at)
                self.assertEqual(net, kept)
                refereed(net, begins, wish_hand([]), wish_hand([7, 40]))
                self.assertEqual(net, kept)

    def test_a_play_keeps_its_own_net(self):
        for begins in samples.SIDES:
            net = copy.deepcopy(samples.FULL)
            play, kept = Play(net, begins), Play(samples.FULL, begins)
            for tie in (0, 12, 5):
                net[1].clear()
                net[1].append((tie, 0, 0))
                self.assertEqual(play.lying(), kept.lying())
                self.assertEqual(play.deed(play.turn(), tie), kept.deed(kept.turn(), tie))

    def test_what_is_told_is_the_asker_s_own(self):
        play, kept = Play(samples.FULL, "cutter"), Play(samples.FULL, "cutter")
        told, early = [], []
        for tie in (0, 12, 5, 3):
            told.extend([play.lying(), play.deeds(), play.deed(play.turn(), tie), play.lying(), play.deeds()])
            early.extend([kept.lying(), kept.deeds(), kept.deed(kept.turn(), tie), kept.lying(), kept.deeds()])
        self.assertEqual(told, early)
        self.assert_new(samples.FULL, *told)

    def test_what_is_done_to_what_is_told_changes_nothing(self):
        play, left, side = Play(samples.FULL, "linker"), samples.FULL, "linker"
        done = []
        for tie in (0, 12, 5, 3):
            spoilt = [play.lying()[1], play.deed(side, tie)[1], play.lying()[1], play.deeds()]
            for each in spoilt:
                each.clear()
                each.append((99, 0, 7))
            left = samples.behind(left, side, tie)
            done.append((side, tie))
            side = samples.other(side)
            self.assert_lies(play, left, side, done)

    def test_deeds_told_are_new_each_time(self):
        play = Play(samples.FULL, "linker")
        self.assert_new(play.deeds(), play.deeds())
        play.deed("linker", 0)
        play.deed("cutter", 1)
        self.assert_new(play.deeds(), play.deeds())
        self.assert_new(samples.FULL, play.lying(), play.lying())

    def test_what_a_referee_tells_is_new_each_time(self):
        wish = wish_hand([3])
        one = refereed(samples.FULL, "cutter", wish, wish)
        early = copy.deepcopy(one)
        other = refereed(samples.FULL, "cutter", wish, wish)
        self.assert_new(one, other, samples.FULL)
        other[1].clear()
        self.assertEqual((one, refereed(samples.FULL, "cutter", wish, wish)), (early, early))

    def test_plays_do_not_meddle(self):
        one, other = Play(samples.FULL, "linker"), Play(samples.FULL, "linker")
        one.deed("linker", 0)
        one.deed("cutter", 1)
        self.assert_lies(other, samples.FULL, "linker", [])
        other.deed("linker", 1)
        self.assertEqual(one.deeds(), [("linker", 0), ("cutter", 1)])

    def test_asked_again_the_answer_is_equal(self):
        for at, net in enumerate(samples.nets_by(10, 9, 6)):
            first = self.played_out(net, "linker", at)[1]
            refereed(samples.FULL, "cutter", wish_hand([]), wish_hand([]))
            self.assertEqual(self.played_out(copy.deepcopy(net), "linker", at)[1], first)


if __name__ == "__main__":
    unittest.main()
