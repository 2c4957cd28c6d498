"""Parts by rows of ties, linked and parted nets, bridges."""

import copy
import itertools
import unittest

import samples
from linkorcut.parts import bridges, is_linked, is_parted, parts_by, winner_of


class PartsBy(unittest.TestCase):

    def test_ordinary(self):
        net = samples.TWO_ROUNDS
        self.assertEqual(parts_by(net, [1, 5]), [[0, 1], [2], [3, 4], [5], [9]])
        self.assertEqual(parts_by(net, [1, 2, 3, 8]), [[0, 1, 2], [3], [4], [5, 9]])
        self.assertEqual(parts_by(net, [1, 2, 3, 4, 5, 6, 7, 8]), [[0, 1, 2, 3, 4, 5, 9]])

    def test_by_the_names_of_the_interface(self):
        self.assertEqual(parts_by(net=((0, 1), [(5, 0, 1)]), row=[5]), [[0, 1]])
        self.assertIs(is_linked(net=samples.NO_TIES), False)
        self.assertIs(is_parted(net=samples.NO_TIES), True)
        self.assertEqual(winner_of(net=samples.NO_TIES), "cutter")
        self.assertEqual(bridges(net=samples.NO_TIES), [])

    def test_form(self):
        told = parts_by(samples.TWO_ROUNDS, [8, 1])
        self.assertIs(type(told), list)
        for part in told:
            self.assertIs(type(part), list)
            for place in part:
                self.assertIs(type(place), int)

    def test_the_empty_row(self):
        self.assertEqual(parts_by(samples.TWO_ROUNDS, []), [[0], [1], [2], [3], [4], [5], [9]])

    def test_places_that_no_tie_of_the_row_meets(self):
        self.assertEqual(parts_by(samples.LOOPS_AND_TWINS, [0]), [[1], [3, 4], [6]])

    def test_loops_join_nothing(self):
        self.assertEqual(parts_by(samples.LOOPS_AND_TWINS, [11, 10, 4]), [[1], [3], [4], [6]])

    def test_twins_join_once(self):
        for row in ([2], [7], [2, 7], [7, 2]):
            self.assertEqual(parts_by(samples.LOOPS_AND_TWINS, row), [[1, 3], [4], [6]])

    def test_no_ties(self):
        self.assertEqual(parts_by(samples.NO_TIES, []), [[2], [5]])
        self.assertEqual(parts_by(samples.ONE_PLACE, []), [[4]])

    def test_poles_the_same_place(self):
        self.assertEqual(parts_by(samples.SAME_POLES, []), [[2], [3]])
        self.assertEqual(parts_by(samples.SAME_POLES, [5]), [[2, 3]])

    def test_poles_that_no_tie_meets(self):
        self.assertEqual(parts_by(samples.POLES_UNMET, [3, 4, 8]), [[0], [4, 5, 6], [9]])

    def test_the_poles_are_not_joined_for_being_poles(self):
        self.assertEqual(parts_by(((0, 1), [(0, 1, 2)]), [0]), [[0], [1, 2]])

    def test_sorted_as_numbers(self):
        net = ((9, 100), [(0, 10, 100), (1, 2, 9), (2, 2, 30)])
        self.assertEqual(parts_by(net, []), [[2], [9], [10], [30], [100]])
        self.assertEqual(parts_by(net, [2, 1, 0]), [[2, 9, 30], [10, 100]])

    def test_parts_met_late_become_one(self):
        net = ((0, 3), [(0, 0, 1), (1, 2, 3), (2, 1, 2), (3, 4, 5)])
        for row in itertools.permutations([0, 1, 2]):
            self.assertEqual(parts_by(net, list(row)), [[0, 1, 2, 3], [4], [5]])

    def test_rows_in_any_order(self):
        for net in (samples.LOOPS_AND_TWINS, samples.GREAT, samples.SAME_POLES):
            for chosen in samples.rows_of(samples.names(net))[:40]:
                told = parts_by(net, chosen)
                for row in itertools.permutations(chosen):
                    self.assertEqual(parts_by(net, list(row)), told)

    def test_fourteen_ties_and_eight_places(self):
        self.assertEqual(parts_by(samples.FULL, list(range(14))), [list(range(8))])
        self.assertEqual(parts_by(samples.FULL, [13, 5, 9, 2]), [[0, 7], [1, 2], [3, 4], [5, 6]])

    def test_sixty_figures(self):
        great = samples.SIXTY
        self.assertEqual(parts_by(samples.GREAT, [great]), [[0, great], [great - 2], [great - 1]])
        self.assertEqual(parts_by(samples.GREAT, [great - 1, 3]), [[0], [great - 2, great - 1, great]])

    def test_somewhat_beyond_the_bounds(self):
        net = ((0, 9), [(name, name % 9, name % 9 + 1) for name in range(18)])
        self.assertEqual(parts_by(net, list(range(18))), [list(range(10))])
        self.assertEqual(bridges(net), [])

    def test_against_walking(self):
        for net in samples.small_nets() + samples.nets_by(20, 6, 5) + samples.NAMED:
            for row in samples.rows_of(samples.names(net))[:70]:
                walked = [list(part) for part in samples.parts(net, row)]
                self.assertEqual(parts_by(net, samples.mixed(row, len(row))), walked, (net, row))


class LinkedAndParted(unittest.TestCase):

    def assert_told(self, net, linked, parted, winner):
        self.assertIs(is_linked(net), linked, net)
        self.assertIs(is_parted(net), parted, net)
        self.assertEqual(winner_of(net), winner, net)

    def test_neither(self):
        for net in (samples.TWO_ROUNDS, samples.LOOPS_AND_TWINS, samples.GREAT, samples.FULL):
            self.assert_told(net, False, False, None)
            self.assertIsNone(winner_of(net))

    def test_linked(self):
        for net in (samples.ONE_PLACE, samples.SAME_POLES, ((0, 0), [(1, 5, 6)])):
            self.assert_told(net, True, False, "linker")

    def test_parted(self):
        for net in (samples.NO_TIES, samples.POLES_UNMET):
            self.assert_told(net, False, True, "cutter")
        self.assert_told(((0, 1), [(0, 0, 0), (1, 1, 1)]), False, True, "cutter")
        self.assert_told(((0, 1), [(0, 0, 2), (1, 1, 3), (2, 2, 4)]), False, True, "cutter")

    def test_a_tie_between_the_poles_does_not_link_yet(self):
        self.assert_told(((0, 1), [(0, 0, 1)]), False, False, None)

    def test_joined_from_afar(self):
        self.assert_told(((0, 3), [(0, 1, 3), (1, 1, 2), (2, 0, 2)]), False, False, None)

    def test_parts_that_do_not_matter(self):
        self.assert_told(((0, 1), [(0, 0, 1), (1, 5, 6)]), False, False, None)

    def test_sixty_figures(self):
        great = samples.SIXTY
        self.assert_told(((great, great), []), True, False, "linker")
        self.assert_told(((great - 1, great), []), False, True, "cutter")
        self.assert_told(((great - 1, great), [(great, great - 1, great)]), False, False, None)

    def test_against_walking(self):
        for net in samples.small_nets() + samples.nets_by(60, 5, 6):
            one, other = net[0]
            parted = other not in samples.met_from(one, samples.pairs(net, samples.names(net)))
            winner = "linker" if one == other else "cutter" if parted else None
            self.assert_told(net, one == other, parted, winner)


class Bridges(unittest.TestCase):

    def test_ordinary(self):
        self.assertEqual(bridges(samples.TWO_ROUNDS), [4, 8])

    def test_a_tie_that_alone_meets_a_place(self):
        self.assertEqual(bridges(((0, 1), [(3, 0, 1)])), [3])
        self.assertEqual(bridges(((0, 1), [(3, 1, 5), (1, 0, 1), (2, 0, 1)])), [3])

    def test_also_where_the_poles_are_not_met(self):
        self.assertEqual(bridges(((0, 9), [(3, 4, 5), (7, 6, 6)])), [3])

    def test_loops_and_twins_are_none(self):
        self.assertEqual(bridges(samples.LOOPS_AND_TWINS), [0])
        self.assertEqual(bridges(samples.SAME_POLES), [])

    def test_the_poles_help_not(self):
        self.assertEqual(bridges(((0, 2), [(0, 0, 1), (1, 1, 2)])), [0, 1])
        self.assertEqual(bridges(((0, 0), [(0, 0, 1), (1, 1, 2)])), [0, 1])

    def test_none(self):
        for net in (samples.NO_TIES, samples.ONE_PLACE, samples.EVERY_PAIR_OF_FOUR, samples.POLES_UNMET):
            self.assertEqual(bridges(net), [])

    def test_sorted_by_names(self):
        self.assertEqual(bridges(((0, 3), [(2, 2, 3), (9, 1, 2), (10, 0, 1)])), [2, 9, 10])

    def test_sixty_figures(self):
        self.assertEqual(bridges(samples.GREAT), [3, samples.SIXTY - 1, samples.SIXTY])

    def test_fourteen_ties_and_eight_places(self):
        self.assertEqual(bridges(samples.FULL), [])
        net = ((0, 7), [(name, min(name, 6), min(name, 6) + 1) for name in range(14)])
        self.assertEqual(bridges(net), [0, 1, 2, 3, 4, 5])

    def test_against_counting_parts_without_a_tie(self):
        for net in samples.small_nets() + samples.nets_by(40, 6, 6) + samples.nets_by(20, 14, 8):
            ties = samples.names(net)
            many = len(samples.parts(net, ties))
            counted = []
            for tie in ties:
                if len(samples.parts(net, [other for other in ties if other != tie])) == many + 1:
                    counted.append(tie)
            self.assertEqual(bridges(net), counted, net)


class KeptApart(unittest.TestCase):
    """What is handed in and what is told change nothing in one another."""

    def test_what_is_handed_in_stays(self):
        for told in samples.NAMED:
            net = copy.deepcopy(told)
            row = samples.mixed(samples.names(net), 5)
            kept = list(row)
            parts_by(net, row)
            is_linked(net)
            is_parted(net)
            winner_of(net)
            bridges(net)
            self.assertEqual((net, row), (told, kept))

    def test_what_is_told_is_the_asker_s_own(self):
        net = copy.deepcopy(samples.TWO_ROUNDS)
        row = [1, 5]
        told = parts_by(net, row)
        told[0].append(77)
        told[2].clear()
        told.reverse()
        bridges(net).append(77)
        self.assertEqual((net, row), (samples.TWO_ROUNDS, [1, 5]))
        self.assertEqual(parts_by(net, row), [[0, 1], [2], [3, 4], [5], [9]])
        self.assertEqual(bridges(net), [4, 8])

    def test_told_lists_are_new_each_time(self):
        net = samples.NO_TIES
        self.assertIsNot(parts_by(net, []), parts_by(net, []))
        self.assertIsNot(parts_by(net, [])[0], parts_by(net, [])[0])
        self.assertIsNot(bridges(net), bridges(net))
        bridges(net).append(3)
        self.assertEqual(bridges(net), [])

    def test_a_net_that_was_changed_is_told_anew(self):
        net = ((0, 1), [(0, 0, 1)])
        told = (parts_by(net, [0]), winner_of(net), bridges(net))
        self.assertEqual(told, ([[0, 1]], None, [0]))
        net[1].append((1, 0, 1))
        self.assertEqual((parts_by(net, [0]), winner_of(net), bridges(net)), ([[0, 1]], None, []))
        net[1].clear()
        self.assertEqual((parts_by(net, []), winner_of(net), bridges(net)), ([[0], [1]], "cutter", []))
        self.assertEqual(told, ([[0, 1]], None, [0]))

    def test_asked_again_the_answer_is_equal(self):
        for turn in range(3):
            self.assertEqual(parts_by(samples.SAME_POLES, [0]), [[2, 3]])
            self.assertEqual(parts_by(samples.SAME_POLES, []), [[2], [3]])
            self.assertEqual(winner_of(samples.SAME_POLES), "linker")
            self.assertEqual(winner_of(samples.POLES_UNMET), "cutter")
            self.assertIsNone(winner_of(samples.TWO_ROUNDS))
            self.assertEqual(bridges(samples.TWO_ROUNDS), [4, 8])
            self.assertEqual(bridges(samples.FULL), [])


if __name__ == "__main__":
    unittest.main()
