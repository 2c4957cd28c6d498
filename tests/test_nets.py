"""Nets: how they are made, what is told of them, what is refused."""

import copy
import itertools
import unittest

from linkorcut.errors import NoNumber, NotThere, TooMany, Twice
from linkorcut.nets import ends_of, names_of, net_of, places_of

SIXTY = 10 ** 60 - 1
SIXTY_ONE = 10 ** 60

LOOPS_AND_TWINS = [(7, 3, 1), (2, 1, 3), (9, 4, 4), (4, 1, 1), (0, 3, 4)]
IN_ORDER = [(0, 3, 4), (2, 1, 3), (4, 1, 1), (7, 1, 3), (9, 4, 4)]


def loops(many):
    """So many ties, all from place 0 to itself."""
    return [(name, 0, 0) for name in range(many)]


def chain(many):
    """A row of ties through so many places, from 0 on."""
    return [(name, name, name + 1) for name in range(many - 1)]


class Case(unittest.TestCase):

    def refused(self, refusal, poles, ties):
        with self.assertRaises(refusal) as caught:
            net_of(poles, ties)
        self.assertIs(type(caught.exception), refusal)
        return caught.exception

    def assert_no_number(self, number, poles, ties):
        self.assertEqual(self.refused(NoNumber, poles, ties).number, number)

    def assert_twice(self, tie, poles, ties):
        self.assertEqual(self.refused(Twice, poles, ties).tie, tie)


class Made(Case):

    def test_form(self):
        net = net_of((2, 1), [(5, 4, 3)])
        self.assertEqual(net, ((1, 2), [(5, 3, 4)]))
        self.assertIs(type(net), tuple)
        self.assertIs(type(net[0]), tuple)
        self.assertIs(type(net[1]), list)
        self.assertIs(type(net[1][0]), tuple)

    def test_by_the_names_of_the_interface(self):
        self.assertEqual(net_of(poles=(0, 1), ties=[]), ((0, 1), []))

    def test_poles_either_way_round(self):
        self.assertEqual(net_of((1, 2), [])[0], (1, 2))
        self.assertEqual(net_of((2, 1), [])[0], (1, 2))

    def test_poles_are_ordered_as_numbers(self):
        self.assertEqual(net_of((10, 9), [])[0], (9, 10))

    def test_ends_either_way_round(self):
        self.assertEqual(net_of((0, 1), [(0, 0, 1), (1, 1, 0)])[1], [(0, 0, 1), (1, 0, 1)])
        self.assertEqual(net_of((0, 1), [(0, 10, 9)])[1], [(0, 9, 10)])

    def test_ties_in_any_order(self):
        for ties in itertools.permutations(LOOPS_AND_TWINS):
            self.assertEqual(net_of((3, 1), list(ties)), ((1, 3), IN_ORDER))

    def test_ties_are_sorted_by_names_as_numbers(self):
        self.assertEqual(net_of((0, 1), [(10, 0, 1), (9, 2, 3)])[1], [(9, 2, 3), (10, 0, 1)])

    def test_ties_are_sorted_by_names_not_by_ends(self):
        ties = net_of((0, 1), [(1, 2, 0), (0, 5, 4), (2, 3, 1)])[1]
        self.assertEqual(ties, [(0, 4, 5), (1, 0, 2), (2, 1, 3)])

    def test_several_ties_between_two_places(self):
        ties = [(0, 1, 2), (1, 2, 1), (2, 1, 2)]
        self.assertEqual(net_of((1, 2), ties), ((1, 2), [(0, 1, 2), (1, 1, 2), (2, 1, 2)]))

    def test_ties_from_a_place_to_itself(self):
        self.assertEqual(net_of((0, 1), [(3, 2, 2)]), ((0, 1), [(3, 2, 2)]))

    def test_names_and_places_may_be_the_same_numbers(self):
        self.assertEqual(net_of((1, 2), [(1, 1, 2), (2, 2, 2)]), ((1, 2), [(1, 1, 2), (2, 2, 2)]))

    def test_no_ties(self):
        self.assertEqual(net_of((3, 0), []), ((0, 3), []))

    def test_poles_the_same_place(self):
        self.assertEqual(net_of((5, 5), [(1, 6, 5)]), ((5, 5), [(1, 5, 6)]))

    def test_number_zero(self):
        self.assertEqual(net_of((0, 0), [(0, 0, 0)]), ((0, 0), [(0, 0, 0)]))

    def test_numbers_of_sixty_figures(self):
        ties = [(SIXTY, SIXTY, SIXTY - 1)]
        self.assertEqual(net_of((SIXTY, 0), ties), ((0, SIXTY), [(SIXTY, SIXTY - 1, SIXTY)]))

    def test_fourteen_ties(self):
        self.assertEqual(net_of((0, 1), loops(14)), ((0, 1), loops(14)))

    def test_eight_places(self):
        self.assertEqual(net_of((0, 7), chain(8)), ((0, 7), chain(8)))

    def test_eight_places_two_of_them_poles_that_no_tie_meets(self):
        self.assertEqual(net_of((20, 10), chain(6)), ((10, 20), chain(6)))

    def test_eight_places_one_of_them_both_poles(self):
        self.assertEqual(net_of((10, 10), chain(7)), ((10, 10), chain(7)))

    def test_fourteen_ties_and_eight_places(self):
        ties = chain(8) + [(name, 0, 7) for name in range(7, 14)]
        self.assertEqual(net_of((0, 7), list(reversed(ties))), ((0, 7), ties))

    def test_a_net_makes_itself_again(self):
        net = net_of((3, 1), LOOPS_AND_TWINS)
        self.assertEqual(net_of(net[0], net[1]), net)


class RefusedNumbers(Case):

    def test_below_zero_wherever_it_stands(self):
        self.assert_no_number(-1, (-1, 0), [])
        self.assert_no_number(-1, (0, -1), [])
        self.assert_no_number(-1, (0, 1), [(-1, 0, 1)])
        self.assert_no_number(-1, (0, 1), [(0, -1, 1)])
        self.assert_no_number(-1, (0, 1), [(0, 1, -1)])
        self.assert_no_number(-SIXTY_ONE, (0, 1), [(0, 1, -SIXTY_ONE)])

    def test_of_sixty_one_figures_wherever_it_stands(self):
        self.assert_no_number(SIXTY_ONE, (SIXTY_ONE, 0), [])
        self.assert_no_number(SIXTY_ONE, (0, SIXTY_ONE), [])
        self.assert_no_number(SIXTY_ONE, (0, 1), [(SIXTY_ONE, 0, 1)])
        self.assert_no_number(SIXTY_ONE, (0, 1), [(0, SIXTY_ONE, 1)])
        self.assert_no_number(SIXTY_ONE, (0, 1), [(0, 1, SIXTY_ONE)])

    def test_far_too_great(self):
        self.assert_no_number(10 ** 299, (0, 10 ** 299), [])
        self.assert_no_number(10 ** 5000, (0, 10 ** 5000), [])

    def test_first_pole_first(self):
        self.assert_no_number(SIXTY_ONE, (SIXTY_ONE, -1), [])
        self.assert_no_number(-1, (-1, SIXTY_ONE), [])
        self.assert_no_number(-2, (-2, -3), [])
        self.assert_no_number(-3, (-3, -2), [])

    def test_poles_ahead_of_ties(self):
        self.assert_no_number(-9, (0, -9), [(-5, -6, -7)])

    def test_in_a_tie_the_name_then_the_ends_as_told(self):
        self.assert_no_number(-1, (0, 1), [(-1, -2, -3)])
        self.assert_no_number(-3, (0, 1), [(-3, -2, -1)])
        self.assert_no_number(-2, (0, 1), [(0, -2, -3)])
        self.assert_no_number(-3, (0, 1), [(0, -3, -2)])
        self.assert_no_number(SIXTY_ONE, (0, 1), [(0, SIXTY_ONE, -3)])

    def test_tie_by_tie_as_told(self):
        self.assert_no_number(-7, (0, 1), [(5, 0, -7), (1, -3, 0)])
        self.assert_no_number(-7, (0, 1), [(5, 0, -7), (-1, 0, 0)])
        self.assert_no_number(-3, (0, 1), [(1, -3, 0), (5, -7, 0)])

    def test_ahead_of_twice(self):
        self.assert_no_number(-4, (0, 1), [(2, 0, 1), (2, 0, 1), (3, 0, -4)])
        self.assert_no_number(-1, (0, 1), [(-1, 0, 1), (-1, 0, 1)])

    def test_ahead_of_too_many_ties(self):
        self.assert_no_number(-4, (0, 1), loops(20) + [(20, 0, -4)])

    def test_ahead_of_too_many_places(self):
        self.assert_no_number(SIXTY_ONE, (0, 1), chain(10) + [(20, 0, SIXTY_ONE)])


class RefusedNames(Case):

    def test_told_again(self):
        self.assert_twice(3, (0, 1), [(3, 0, 1), (3, 1, 2)])
        self.assert_twice(0, (0, 1), [(0, 0, 1), (5, 0, 1), (0, 1, 2)])
        self.assert_twice(SIXTY, (0, 1), [(SIXTY, 0, 1), (5, 0, 1), (SIXTY, 1, 2)])

    def test_the_very_same_tie_told_again(self):
        self.assert_twice(3, (0, 1), [(3, 0, 1), (3, 0, 1)])
        self.assert_twice(3, (0, 1), [(3, 0, 1), (3, 1, 0)])

    def test_the_first_name_that_an_earlier_tie_has(self):
        self.assert_twice(1, (0, 1), [(name, 0, 1) for name in [3, 1, 2, 1, 3]])
        self.assert_twice(2, (0, 1), [(name, 0, 1) for name in [1, 2, 2, 1]])
        self.assert_twice(5, (0, 1), [(name, 0, 1) for name in [1, 5, 7, 5, 1, 7]])

    def test_not_for_places_told_again(self):
        self.assertEqual(net_of((1, 1), [(1, 1, 1), (2, 1, 1)]), ((1, 1), [(1, 1, 1), (2, 1, 1)]))

    def test_ahead_of_too_many_ties(self):
        self.assert_twice(13, (0, 1), loops(14) + [(13, 0, 0)])
        self.assert_twice(4, (0, 1), loops(20) + [(4, 0, 0)])

    def test_ahead_of_too_many_places(self):
        self.assert_twice(2, (0, 1), chain(10) + [(2, 0, 0)])


class RefusedSizes(Case):

    def test_fifteen_ties(self):
        self.refused(TooMany, (0, 1), loops(15))

    def test_a_hundred_ties(self):
        self.refused(TooMany, (0, 1), loops(100))

    def test_nine_places_by_ties(self):
        self.refused(TooMany, (0, 8), chain(9))

    def test_nine_places_by_one_pole(self):
        self.refused(TooMany, (0, 20), chain(8))
        self.refused(TooMany, (20, 0), chain(8))

    def test_nine_places_by_both_poles(self):
        self.refused(TooMany, (20, 30), chain(7))

    def test_nine_places_by_a_pole_that_is_both(self):
        self.refused(TooMany, (20, 20), chain(8))

    def test_nine_places_by_a_tie_from_a_place_to_itself(self):
        self.refused(TooMany, (0, 7), chain(8) + [(9, 20, 20)])

    def test_too_many_of_both(self):
        self.refused(TooMany, (0, 1), chain(20))


class Told(Case):

    def test_places(self):
        self.assertEqual(places_of(net_of((3, 1), LOOPS_AND_TWINS)), [1, 3, 4])

    def test_places_are_sorted_as_numbers(self):
        self.assertEqual(places_of(net_of((10, 9), [(0, 100, 2)])), [2, 9, 10, 100])

    def test_poles_that_no_tie_meets_are_places(self):
        self.assertEqual(places_of(net_of((9, 0), [(1, 5, 4)])), [0, 4, 5, 9])
        self.assertEqual(places_of(net_of((9, 0), [])), [0, 9])

    def test_poles_of_one_place_are_one_place(self):
        self.assertEqual(places_of(net_of((2, 2), [])), [2])

    def test_a_place_that_only_meets_itself_is_a_place(self):
        self.assertEqual(places_of(net_of((0, 1), [(3, 2, 2)])), [0, 1, 2])

    def test_names_are_no_places(self):
        self.assertEqual(places_of(net_of((0, 1), [(7, 0, 1)])), [0, 1])

    def test_eight_places(self):
        self.assertEqual(places_of(net_of((7, 0), chain(8))), [0, 1, 2, 3, 4, 5, 6, 7])

    def test_names(self):
        self.assertEqual(names_of(net_of((3, 1), LOOPS_AND_TWINS)), [0, 2, 4, 7, 9])
        self.assertEqual(names_of(net_of((0, 1), [(10, 0, 1), (9, 0, 1)])), [9, 10])
        self.assertEqual(names_of(net_of((0, 1), [])), [])
        self.assertEqual(names_of(net_of((0, 1), loops(14))), list(range(14)))

    def test_ends(self):
        net = net_of((3, 1), LOOPS_AND_TWINS)
        told = [ends_of(net, name) for name in [0, 2, 4, 7, 9]]
        self.assertEqual(told, [(3, 4), (1, 3), (1, 1), (1, 3), (4, 4)])

    def test_ends_of_long_numbers(self):
        net = net_of((0, 1), [(SIXTY, SIXTY, 3)])
        self.assertEqual(ends_of(net, SIXTY), (3, SIXTY))

    def test_by_the_names_of_the_interface(self):
        net = net_of((0, 1), [(3, 2, 1)])
        self.assertEqual(places_of(net=net), [0, 1, 2])
        self.assertEqual(names_of(net=net), [3])
        self.assertEqual(ends_of(net=net, tie=3), (1, 2))

    def test_ends_of_no_tie(self):
        net = net_of((3, 1), LOOPS_AND_TWINS)
        for tie in [1, 3, 5, 8, 10, -1, -2, SIXTY, SIXTY_ONE, -SIXTY_ONE]:
            with self.subTest(tie=tie):
                with self.assertRaises(NotThere) as caught:
                    ends_of(net, tie)
                self.assertEqual(caught.exception.tie, tie)

    def test_ends_in_a_net_without_ties(self):
        for tie in [0, 1, -1]:
            with self.subTest(tie=tie):
                with self.assertRaises(NotThere) as caught:
                    ends_of(net_of((0, 1), []), tie)
                self.assertEqual(caught.exception.tie, tie)


class KeptApart(Case):
    """What is handed in and what is told change nothing in one another."""

    def test_what_is_handed_in_stays(self):
        poles = (3, 1)
        ties = list(LOOPS_AND_TWINS)
        net_of(poles, ties)
        self.assertEqual((poles, ties), ((3, 1), LOOPS_AND_TWINS))

    def test_what_is_refused_stays(self):
        for ties in [loops(20), [(2, 1, 0), (1, 0, 0), (2, 0, 1)], [(2, 1, 0), (1, 0, -1)]]:
            kept = copy.deepcopy(ties)
            self.assertRaises(ValueError, net_of, (1, 0), ties)
            self.assertEqual(ties, kept)

    def test_a_net_that_is_asked_stays(self):
        net = net_of((3, 1), LOOPS_AND_TWINS)
        kept = copy.deepcopy(net)
        places_of(net)
        names_of(net)
        ends_of(net, 7)
        self.assertRaises(NotThere, ends_of, net, 1)
        self.assertEqual(net, kept)

    def test_a_change_of_what_was_handed_in_changes_no_net(self):
        ties = list(IN_ORDER)
        net = net_of((1, 3), ties)
        ties.append((20, 0, 1))
        ties[0] = (0, 0, 0)
        self.assertEqual(net, ((1, 3), IN_ORDER))

    def test_a_net_is_new_each_time(self):
        ties = list(IN_ORDER)
        first = net_of((1, 3), ties)
        second = net_of((1, 3), ties)
        self.assertIsNot(first, second)
        self.assertIsNot(first[0], second[0])
        first[1].clear()
        self.assertEqual(second, ((1, 3), IN_ORDER))
        self.assertEqual(ties, IN_ORDER)
        self.assertEqual(net_of((1, 3), ties), ((1, 3), IN_ORDER))

    def test_a_net_without_ties_is_new_each_time(self):
        net_of((0, 1), [])[1].append((0, 0, 1))
        self.assertEqual(net_of((0, 1), []), ((0, 1), []))

    def test_poles_and_ties_are_new_tuples(self):
        poles = tuple([1, 3])
        ties = [tuple([0, 1, 3])]
        net = net_of(poles, ties)
        self.assertIsNot(net[0], poles)
        self.assertIsNot(net[1], ties)
        self.assertIsNot(net[1][0], ties[0])

    def test_places_and_names_are_the_asker_s_own(self):
        net = net_of((3, 1), LOOPS_AND_TWINS)
        kept = copy.deepcopy(net)
        for asked in (places_of, names_of):
            told = asked(net)
            before = list(told)
            told.reverse()
            told.append(99)
            self.assertEqual(net, kept)
            self.assertEqual(asked(net), before)
            self.assertIsNot(asked(net), asked(net))

    def test_ends_are_new_each_time(self):
        net = net_of((3, 1), LOOPS_AND_TWINS)
        self.assertIsNot(ends_of(net, 7), ends_of(net, 7))

    def test_asked_again_the_answer_is_equal(self):
        one = net_of((3, 1), LOOPS_AND_TWINS)
        other = net_of((0, 9), [(7, 0, 9)])
        for turn in range(3):
            self.assertEqual(places_of(one), [1, 3, 4])
            self.assertEqual(places_of(other), [0, 9])
            self.assertEqual(names_of(one), [0, 2, 4, 7, 9])
            self.assertEqual(names_of(other), [7])
            self.assertEqual(ends_of(one, 7), (1, 3))
            self.assertEqual(ends_of(other, 7), (0, 9))
            self.assert_twice(3, (0, 1), [(3, 0, 1), (3, 1, 2)])
            self.assert_no_number(-1, (0, -1), [])
            self.refused(TooMany, (0, 1), loops(15))

    def test_an_equal_net_that_was_changed_is_told_anew(self):
        net = net_of((0, 1), [(5, 0, 1)])
        self.assertEqual((names_of(net), places_of(net)), ([5], [0, 1]))
        net[1].append((6, 1, 2))
        self.assertEqual((names_of(net), places_of(net)), ([5, 6], [0, 1, 2]))
        self.assertEqual(ends_of(net, 6), (1, 2))


if __name__ == "__main__":
    unittest.main()
