"""Ties taken out and drawn together, one by one and by rows, and what is refused."""

import copy
import itertools
import unittest

import samples
from linkorcut.deeds import all_drawn, all_out, done_by, drawn, taken_out
from linkorcut.errors import NotThere

NUMBERS_BELOW = [-1, -2, -17, -(10 ** 60), -(10 ** 90)]
NUMBERS_ABOVE = [1000, 10 ** 60 - 2, 10 ** 60, 10 ** 61, 10 ** 90]


def nets():
    return samples.small_nets() + samples.nets_by(25, 5, 5) + samples.nets_by(10, 14, 8) + samples.NAMED


def in_order(net):
    """Whether a net is put as nets are."""
    poles, ties = net
    right = type(net) is tuple and type(poles) is tuple and type(ties) is list and poles[0] <= poles[1]
    return right and ties == sorted(ties) and all(type(tie) is tuple and tie[1] <= tie[2] for tie in ties)


class TakenOut(unittest.TestCase):

    def test_ordinary(self):
        net = ((0, 2), [(1, 0, 1), (4, 1, 2), (6, 0, 2)])
        self.assertEqual(taken_out(net, 1), ((0, 2), [(4, 1, 2), (6, 0, 2)]))
        self.assertEqual(taken_out(net, 4), ((0, 2), [(1, 0, 1), (6, 0, 2)]))
        self.assertEqual(taken_out(net, 6), ((0, 2), [(1, 0, 1), (4, 1, 2)]))

    def test_by_the_names_of_the_interface(self):
        net = ((0, 1), [(5, 0, 1)])
        self.assertEqual(taken_out(net=net, tie=5), ((0, 1), []))
        self.assertEqual(drawn(net=net, tie=5), ((0, 0), []))
        self.assertEqual(done_by(net=net, side="linker", tie=5), ((0, 0), []))
        self.assertEqual(all_out(net=net, row=[5]), ((0, 1), []))
        self.assertEqual(all_drawn(net=net, row=[5]), ((0, 0), []))

    def test_the_poles_stay(self):
        self.assertEqual(taken_out(((0, 1), [(0, 0, 1)]), 0), ((0, 1), []))
        self.assertEqual(taken_out(((3, 3), [(0, 3, 4)]), 0), ((3, 3), []))

    def test_loops_and_twins(self):
        poles, ties = samples.LOOPS_AND_TWINS
        for tie in ties:
            self.assertEqual(taken_out((poles, ties), tie[0]), (poles, [other for other in ties if other != tie]))

    def test_sixty_figures(self):
        great = samples.SIXTY
        self.assertEqual(taken_out(samples.GREAT, great), (samples.GREAT[0], samples.GREAT[1][:2]))

    def test_every_tie_of_many_nets(self):
        for net in nets():
            for tie in samples.names(net):
                told = taken_out(net, tie)
                self.assertEqual(told, (net[0], [each for each in net[1] if each[0] != tie]))
                self.assertTrue(in_order(told))


class Drawn(unittest.TestCase):

    def test_ordinary(self):
        net = ((0, 3), [(1, 0, 1), (4, 1, 2), (6, 2, 3)])
        self.assertEqual(drawn(net, 1), ((0, 3), [(4, 0, 2), (6, 2, 3)]))
        self.assertEqual(drawn(net, 4), ((0, 3), [(1, 0, 1), (6, 1, 3)]))
        self.assertEqual(drawn(net, 6), ((0, 2), [(1, 0, 1), (4, 1, 2)]))

    def test_a_pole_gets_the_lesser_number(self):
        self.assertEqual(drawn(((2, 5), [(0, 3, 5), (1, 2, 3)]), 0), ((2, 3), [(1, 2, 3)]))

    def test_poles_are_put_in_order_again(self):
        self.assertEqual(drawn(((2, 5), [(0, 1, 5), (7, 2, 4)]), 0), ((1, 2), [(7, 2, 4)]))

    def test_ends_are_put_in_order_again(self):
        self.assertEqual(drawn(((0, 3), [(4, 1, 5), (6, 3, 5), (9, 5, 7)]), 4), ((0, 3), [(6, 1, 3), (9, 1, 7)]))

    def test_the_poles_become_one(self):
        self.assertEqual(drawn(((1, 3), [(0, 1, 3), (2, 3, 4)]), 0), ((1, 1), [(2, 1, 4)]))

    def test_poles_that_are_one_move_together(self):
        self.assertEqual(drawn(((3, 3), [(0, 1, 3)]), 0), ((1, 1), []))

    def test_a_tie_of_one_place_just_goes(self):
        poles, ties = samples.LOOPS_AND_TWINS
        for tie in (4, 10, 11):
            left = [each for each in ties if each[0] != tie]
            self.assertEqual(drawn((poles, ties), tie), (poles, left))
            self.assertEqual(drawn((poles, ties), tie), taken_out((poles, ties), tie))

    def test_ties_that_come_to_join_a_place_to_itself_stay(self):
        net = ((0, 2), [(0, 0, 1), (1, 0, 1), (2, 1, 1), (3, 1, 2)])
        self.assertEqual(drawn(net, 1), ((0, 2), [(0, 0, 0), (2, 0, 0), (3, 0, 2)]))

    def test_a_place_that_no_pole_is(self):
        self.assertEqual(drawn(((0, 9), [(3, 4, 5), (4, 5, 6), (8, 4, 6)]), 8), ((0, 9), [(3, 4, 5), (4, 4, 5)]))

    def test_the_names_keep_their_order(self):
        net = ((0, 1), [(2, 7, 9), (9, 0, 7), (10, 0, 9)])
        self.assertEqual(drawn(net, 10), ((0, 1), [(2, 0, 7), (9, 0, 7)]))

    def test_sixty_figures(self):
        great = samples.SIXTY
        self.assertEqual(
            drawn(samples.GREAT, great), ((0, great - 1), [(3, 0, great - 2), (great - 1, great - 2, great - 1)]))

    def test_every_tie_of_many_nets(self):
        for net in nets():
            for tie in samples.names(net):
                told = drawn(net, tie)
                self.assertEqual(told, samples.drawn(net, [tie]))
                self.assertTrue(in_order(told))


class DoneBy(unittest.TestCase):

    def test_the_linker_draws_and_the_cutter_takes_out(self):
        net = ((0, 2), [(0, 0, 1), (1, 1, 2)])
        self.assertEqual(done_by(net, "linker", 1), ((0, 1), [(0, 0, 1)]))
        self.assertEqual(done_by(net, "cutter", 1), ((0, 2), [(0, 0, 1)]))

    def test_every_tie_of_many_nets(self):
        for net in nets():
            for tie in samples.names(net):
                self.assertEqual(done_by(net, "linker", tie), drawn(net, tie))
                self.assertEqual(done_by(net, "cutter", tie), taken_out(net, tie))


class Refused(unittest.TestCase):

    def assert_not_there(self, tie, deed, *things):
        with self.assertRaises(NotThere) as caught:
            deed(*things)
        self.assertIs(type(caught.exception), NotThere)
        self.assertEqual(caught.exception.tie, tie)

    def assert_none_such(self, net, tie):
        kept = copy.deepcopy(net)
        self.assert_not_there(tie, taken_out, net, tie)
        self.assert_not_there(tie, drawn, net, tie)
        self.assert_not_there(tie, done_by, net, "linker", tie)
        self.assert_not_there(tie, done_by, net, "cutter", tie)
        self.assertEqual(net, kept)

    def test_the_thought_tie(self):
        for net in nets():
            self.assert_none_such(net, -1)

    def test_numbers_below_and_great_numbers(self):
        for net in samples.NAMED:
            for tie in NUMBERS_BELOW + NUMBERS_ABOVE:
                if tie not in samples.names(net):
                    self.assert_none_such(net, tie)

    def test_numbers_between_the_names(self):
        for tie in (1, 3, 5, 6, 8, 9, 12):
            self.assert_none_such(samples.LOOPS_AND_TWINS, tie)

    def test_no_ties(self):
        for tie in (0, 2, 5, -1):
            self.assert_none_such(samples.NO_TIES, tie)
            self.assert_none_such(samples.ONE_PLACE, tie)

    def test_a_place_is_no_name(self):
        self.assert_none_such(((0, 1), [(5, 0, 1), (6, 2, 2)]), 2)

    def test_what_has_gone(self):
        net = samples.LOOPS_AND_TWINS
        for deed in (taken_out, drawn):
            for tie in samples.names(net):
                self.assert_none_such(deed(net, tie), tie)


class Rows(unittest.TestCase):

    def test_ordinary(self):
        net = samples.TWO_ROUNDS
        self.assertEqual(all_out(net, [8, 1, 6]), ((0, 5), [(2, 1, 2), (3, 0, 2), (4, 2, 3), (5, 3, 4), (7, 3, 5)]))
        self.assertEqual(
            all_drawn(net, [8, 4, 3]), ((0, 5), [(1, 0, 1), (2, 0, 1), (5, 0, 4), (6, 4, 5), (7, 0, 5)]))

    def test_all_ties(self):
        for net in nets():
            row = samples.names(net)
            self.assertEqual(all_out(net, row), (net[0], []))
            self.assertEqual(all_drawn(net, row), samples.drawn(net, row))

    def test_the_empty_row(self):
        for net in nets():
            self.assertEqual(all_out(net, []), net)
            self.assertEqual(all_drawn(net, []), net)

    def test_a_round_drawn_together(self):
        self.assertEqual(all_drawn(((1, 2), [(0, 0, 1), (1, 1, 2), (2, 0, 2)]), [0, 1, 2]), ((0, 0), []))

    def test_one_after_another(self):
        net = samples.FULL
        row = [13, 0, 7, 9, 4]
        out, together = net, net
        for tie in row:
            out, together = taken_out(out, tie), drawn(together, tie)
        self.assertEqual(all_out(net, row), out)
        self.assertEqual(all_drawn(net, row), together)

    def test_every_order(self):
        rows = [(net, samples.names(net)) for net in samples.small_nets() + samples.nets_by(12, 4, 4)]
        for net in samples.NAMED + samples.nets_by(10, 14, 8):
            rows.append((net, samples.mixed(samples.names(net), 3)[:4]))
        for net, row in rows:
            out = (net[0], [tie for tie in net[1] if tie[0] not in row])
            together = samples.drawn(net, row)
            for order in itertools.permutations(row):
                self.assertEqual(all_out(net, list(order)), out)
                self.assertEqual(all_drawn(net, list(order)), together)

    def test_taken_out_ahead_of_and_behind_drawing_together(self):
        for net in nets():
            for one, other in itertools.permutations(samples.names(net)[:6], 2):
                self.assertEqual(taken_out(drawn(net, one), other), drawn(taken_out(net, other), one))

    def test_rows_taken_out_ahead_of_and_behind_drawing_together(self):
        for net in samples.nets_by(30, 10, 8):
            ties = samples.mixed(samples.names(net), 1)
            out, together = ties[:3], ties[3:7]
            self.assertEqual(all_out(all_drawn(net, together), out), all_drawn(all_out(net, out), together))

    def test_somewhat_beyond_the_bounds(self):
        net = ((0, 10), [(name, name % 10, name % 10 + 1) for name in range(18)])
        self.assertEqual(taken_out(net, 17), (net[0], net[1][:17]))
        self.assertEqual(drawn(net, 17), samples.drawn(net, [17]))
        self.assertEqual(all_out(net, list(range(3))), (net[0], net[1][3:]))
        self.assertEqual(all_drawn(net, list(range(3))), samples.drawn(net, [0, 1, 2]))


class KeptApart(unittest.TestCase):
    """What is handed in and what is told change nothing in one another."""

    def deeds(self, net, row):
        """Every deed on a net, as functions that tell a net."""
        tie = row[0] if row else net[1][0][0]
        return [
            lambda: taken_out(net, tie), lambda: drawn(net, tie),
            lambda: done_by(net, "linker", tie), lambda: done_by(net, "cutter", tie),
            lambda: all_out(net, row), lambda: all_drawn(net, row)]

    def test_what_is_handed_in_stays(self):
        for told in (samples.LOOPS_AND_TWINS, samples.TWO_ROUNDS, samples.FULL, samples.SAME_POLES):
            for row in (samples.mixed(samples.names(told), 8), []):
                net = copy.deepcopy(told)
                kept = list(row)
                for deed in self.deeds(net, row):
                    deed()
                    self.assertEqual((net, row), (told, kept))

    def test_what_is_told_is_the_asker_s_own(self):
        for told in (samples.LOOPS_AND_TWINS, samples.TWO_ROUNDS, samples.FULL):
            for row in ([samples.names(told)[1], samples.names(told)[0]], []):
                net = copy.deepcopy(told)
                for deed in self.deeds(net, row):
                    before = copy.deepcopy(deed())
                    mine = deed()
                    mine[1].append((99, 0, 0))
                    mine[1][0] = (0, 0, 0)
                    self.assertEqual(net, told)
                    self.assertEqual(deed(), before)

    def test_told_nets_are_new_each_time(self):
        for row in ([2, 7], []):
            net = copy.deepcopy(samples.LOOPS_AND_TWINS)
            for deed in self.deeds(net, row):
                one, other = deed(), deed()
                self.assertIsNot(one, other)
                self.assertIsNot(one[0], other[0])
                self.assertIsNot(one[1], other[1])
                self.assertIsNot(one[1][0], other[1][0])
                self.assertIsNot(one, net)
                self.assertIsNot(one[0], net[0])
                self.assertIsNot(one[1], net[1])
                self.assertIsNot(one[1][0], net[1][0])

    def test_a_change_of_what_was_handed_in_changes_no_told_net(self):
        for row in ([2, 7], []):
            net = copy.deepcopy(samples.LOOPS_AND_TWINS)
            handed = list(row)
            told = [deed() for deed in self.deeds(net, handed)]
            kept = copy.deepcopy(told)
            net[1].clear()
            handed.append(5)
            self.assertEqual(told, kept)

    def test_asked_again_the_answer_is_equal(self):
        net = ((0, 2), [(0, 0, 1), (1, 1, 2)])
        for turn in range(3):
            self.assertEqual(taken_out(net, 0), ((0, 2), [(1, 1, 2)]))
            self.assertEqual(drawn(net, 0), ((0, 2), [(1, 0, 2)]))
            self.assertRaises(NotThere, drawn, net, 2)
            self.assertEqual(all_out(net, [1, 0]), ((0, 2), []))
            self.assertEqual(all_drawn(net, [1, 0]), ((0, 0), []))
            self.assertEqual(all_drawn(net, []), net)


if __name__ == "__main__":
    unittest.main()
