"""Nets written as texts and read again, and which texts are refused."""

import copy
import itertools
import unittest

from linkorcut.errors import BadRow, TooMany, Twice
from linkorcut.nets import net_of
from linkorcut.texts import read, shown

SIXTY = 10 ** 60 - 1
SIXTY_ONE = 10 ** 60

NET = ((1, 3), [(0, 3, 4), (2, 1, 3), (4, 1, 1), (7, 1, 3), (10, 4, 4)])
ROWS = ["poles 1 3", "tie 0 3 4", "tie 2 1 3", "tie 4 1 1", "tie 7 1 3", "tie 10 4 4"]

# Texts that are not written as a row of numbers behind the word; "W" stands
# for the word and "N" for the numbers that follow the first one.
BROKEN = [
    "", " ", "W", "W ", "N", "5N",
    " W 5N", "W 5N ", "W  5N", "W 5 N", "  W 5N", "W 5N  ",
    "W5N", "W\t5N", "\tW 5N", "W 5N\t", "W 5N\n", "\nW 5N", "W\n5N", "W\u00a05N", "W 5N\r", "W,5N",
    "W 05N", "W 00N", "W 000N", "W 5N0 0", "W 0 5N",
    "W +5N", "W -5N", "W -0N", "W +0N", "W - 5N",
    "W 5_0N", "W 5.0N", "W 0x5N", "W 5e1N", "W fiveN", "W aN", "W 5aN", "W 5,N", "W (5)N", "W 5/N", "W 5:N",
    "W \u0665N", "W \u00b2N", "W \uff15N", "W 1\u0665N", "W \u2167N",
    "w 5N", "edge 5N", "WW 5N", "W W 5N", "5NW", "W: 5N",
    "W " + str(SIXTY_ONE) + "N", "W " + "9" * 61 + "N", "W " + "9" * 200 + "N", "W " + "0" * 61 + "N",
    "W " + "0" + str(SIXTY) + "N",
]


def broken_rows(word, rest):
    """The texts above for one word, and other letters of it."""
    rows = [text.replace("W", word).replace("N", rest) for text in BROKEN]
    for other in (word.upper(), word.capitalize(), word[:-1], word + "s", word[::-1]):
        rows.append(other + " 5" + rest)
    return rows


class Case(unittest.TestCase):

    def assert_bad_row(self, row, rows):
        with self.subTest(rows=rows):
            with self.assertRaises(BadRow) as caught:
                read(rows)
            self.assertEqual(caught.exception.row, row)


class Shown(Case):

    def test_rows(self):
        self.assertEqual(shown(NET), ROWS)

    def test_by_the_names_of_the_interface(self):
        self.assertEqual(shown(net=NET), ROWS)
        self.assertEqual(read(rows=ROWS), NET)

    def test_no_ties(self):
        self.assertEqual(shown(net_of((7, 0), [])), ["poles 0 7"])

    def test_poles_the_same_place(self):
        self.assertEqual(shown(net_of((7, 7), [])), ["poles 7 7"])

    def test_zero(self):
        self.assertEqual(shown(net_of((0, 0), [(0, 0, 0)])), ["poles 0 0", "tie 0 0 0"])

    def test_the_numbers_as_the_net_has_them(self):
        net = net_of((20, 3), [(11, 30, 4), (9, 100, 20)])
        self.assertEqual(shown(net), ["poles 3 20", "tie 9 20 100", "tie 11 4 30"])

    def test_sixty_figures(self):
        nines = "9" * 60
        net = net_of((SIXTY, 0), [(SIXTY, SIXTY, 5)])
        self.assertEqual(shown(net), ["poles 0 " + nines, "tie " + nines + " 5 " + nines])

    def test_fourteen_ties(self):
        net = net_of((0, 1), [(name, 0, 1) for name in range(14)])
        self.assertEqual(shown(net), ["poles 0 1"] + ["tie %d 0 1" % name for name in range(14)])


class Read(Case):

    def test_rows(self):
        self.assertEqual(read(ROWS), NET)

    def test_form(self):
        net = read(["poles 2 1", "tie 5 4 3"])
        self.assertEqual(net, ((1, 2), [(5, 3, 4)]))
        kinds = (type(net), type(net[0]), type(net[1]), type(net[1][0]))
        self.assertEqual(kinds, (tuple, tuple, list, tuple))

    def test_ties_in_any_order(self):
        for ties in itertools.permutations(ROWS[1:]):
            self.assertEqual(read(ROWS[:1] + list(ties)), NET)

    def test_poles_and_ends_either_way_round(self):
        self.assertEqual(read(["poles 3 1", "tie 0 4 3", "tie 2 3 1"]), ((1, 3), [(0, 3, 4), (2, 1, 3)]))

    def test_only_poles(self):
        self.assertEqual(read(["poles 4 2"]), ((2, 4), []))
        self.assertEqual(read(["poles 4 4"]), ((4, 4), []))

    def test_zero(self):
        self.assertEqual(read(["poles 0 0", "tie 0 0 0"]), ((0, 0), [(0, 0, 0)]))

    def test_zeros_behind_the_first_figure(self):
        self.assertEqual(read(["poles 10 100", "tie 20 1000 0"]), ((10, 100), [(20, 0, 1000)]))

    def test_every_figure(self):
        self.assertEqual(read(["poles 1234567890 9876543210"]), ((1234567890, 9876543210), []))

    def test_sixty_figures(self):
        for number in (SIXTY, 10 ** 59):
            net = net_of((number, 0), [(number, number, 5)])
            self.assertEqual(read(["poles %d 0" % number, "tie %d %d 5" % (number, number)]), net)

    def test_written_and_read_again(self):
        sizes = [(poles, many) for poles in [(0, 5), (3, 3), (9, 2)] for many in range(15)]
        for poles, many in sizes:
            ties = [(3 * name, name * name % 5, name * poles[1] % 6) for name in range(many)]
            net = net_of(poles, ties)
            rows = shown(net)
            self.assertEqual(read(rows), net)
            self.assertEqual(read(rows[:1] + rows[:0:-1]), net)
            self.assertEqual(shown(read(rows)), rows)


class BadRows(Case):

    def test_no_texts(self):
        self.assert_bad_row(0, [])

    def test_poles_not_written_so(self):
        for row in broken_rows("poles", " 6"):
            self.assert_bad_row(0, [row])
            self.assert_bad_row(0, [row, "tie 1 2 3"])

    def test_ties_not_written_so(self):
        for row in broken_rows("tie", " 6 7"):
            self.assert_bad_row(1, ["poles 0 1", row])
            self.assert_bad_row(2, ["poles 0 1", "tie 1 2 3", row, "tie 4 5 6"])

    def test_each_number_of_the_poles(self):
        for text in ["05", "00", "+5", "-5", "", "a", "\u0665", str(SIXTY_ONE), "5 5"]:
            self.assert_bad_row(0, ["poles " + text + " 6"])
            self.assert_bad_row(0, ["poles 6 " + text])

    def test_each_number_of_a_tie(self):
        for text in ["05", "00", "+5", "-5", "", "a", "\u0665", str(SIXTY_ONE), "5 5"]:
            self.assert_bad_row(1, ["poles 0 1", "tie " + text + " 6 7"])
            self.assert_bad_row(1, ["poles 0 1", "tie 6 " + text + " 7"])
            self.assert_bad_row(1, ["poles 0 1", "tie 6 7 " + text])

    def test_a_number_too_few(self):
        self.assert_bad_row(0, ["poles"])
        self.assert_bad_row(0, ["poles 1"])
        self.assert_bad_row(1, ["poles 0 1", "tie"])
        self.assert_bad_row(1, ["poles 0 1", "tie 1"])
        self.assert_bad_row(1, ["poles 0 1", "tie 1 2"])

    def test_a_number_too_many(self):
        self.assert_bad_row(0, ["poles 0 1 2"])
        self.assert_bad_row(0, ["poles 0 1 2 3"])
        self.assert_bad_row(1, ["poles 0 1", "tie 1 2 3 4"])
        self.assert_bad_row(1, ["poles 0 1", "tie 1 2 3 4 5"])

    def test_poles_not_first(self):
        self.assert_bad_row(0, ["tie 1 2 3", "poles 0 1"])
        self.assert_bad_row(0, ["", "poles 0 1"])

    def test_poles_twice(self):
        self.assert_bad_row(1, ["poles 0 1", "poles 0 1"])
        self.assert_bad_row(2, ["poles 0 1", "tie 1 2 3", "poles 0 1"])
        self.assert_bad_row(1, ["poles 0 1", "poles 0 1 2"])

    def test_poles_missing(self):
        self.assert_bad_row(0, ["tie 1 2 3"])
        self.assert_bad_row(0, ["tie 1 2"])
        self.assert_bad_row(0, ["tie 1 2 3", "tie 4 5 6"])

    def test_the_first_of_several(self):
        self.assert_bad_row(0, ["poles 0", "tie 1 2"])
        self.assert_bad_row(1, ["poles 0 1", "tie 1 2", "tie"])
        self.assert_bad_row(2, ["poles 0 1", "tie 1 2 3", "tie -1 2 3", "tie", "poles 0 1"])

    def test_the_last_of_many(self):
        rows = ["poles 0 1"] + ["tie %d 0 1" % name for name in range(13)]
        self.assert_bad_row(14, rows + ["tie 13 0"])

    def test_ahead_of_twice(self):
        self.assert_bad_row(3, ["poles 0 1", "tie 1 2 3", "tie 1 2 3", "tie 1 2 03"])

    def test_ahead_of_too_many(self):
        rows = ["poles 0 1"] + ["tie %d 0 1" % name for name in range(20)]
        self.assert_bad_row(21, rows + ["tie 20 0 1 "])
        rows = ["poles 0 1"] + ["tie %d 0 %d" % (name, name) for name in range(12)]
        self.assert_bad_row(13, rows + ["tie 20 0"])

    def test_in_the_place_of_no_number(self):
        self.assert_bad_row(1, ["poles 0 1", "tie 1 2 %d" % SIXTY_ONE])
        self.assert_bad_row(1, ["poles 0 1", "tie -1 2 3"])
        self.assert_bad_row(0, ["poles -1 %d" % SIXTY_ONE])


class RefusedAsNets(Case):

    def test_twice(self):
        with self.assertRaises(Twice) as caught:
            read(["poles 0 1"] + ["tie %d 0 1" % name for name in [3, 1, 2, 1, 3]])
        self.assertEqual(caught.exception.tie, 1)

    def test_the_same_text_twice(self):
        with self.assertRaises(Twice) as caught:
            read(["poles 0 1", "tie 4 0 1", "tie 4 0 1"])
        self.assertEqual(caught.exception.tie, 4)

    def test_twice_ahead_of_too_many(self):
        with self.assertRaises(Twice) as caught:
            read(["poles 0 1"] + ["tie %d 0 1" % name for name in range(15)] + ["tie 9 0 1"])
        self.assertEqual(caught.exception.tie, 9)

    def test_fourteen_ties_and_one_more(self):
        rows = ["poles 0 1"] + ["tie %d 0 1" % name for name in range(14)]
        self.assertEqual(len(read(rows)[1]), 14)
        self.assertRaises(TooMany, read, rows + ["tie 14 0 1"])

    def test_eight_places_and_one_more(self):
        rows = ["poles 0 1"] + ["tie %d 0 %d" % (name, name) for name in range(8)]
        self.assertEqual(len(read(rows)[1]), 8)
        self.assertRaises(TooMany, read, rows + ["tie 8 0 8"])


class KeptApart(Case):
    """What is handed in and what is told change nothing in one another."""

    def test_what_is_handed_in_stays(self):
        net = copy.deepcopy(NET)
        rows = ["poles 3 1", "tie 7 3 1", "tie 2 1 3"]
        shown(net)
        read(rows)
        self.assertEqual(net, NET)
        self.assertEqual(rows, ["poles 3 1", "tie 7 3 1", "tie 2 1 3"])

    def test_what_is_refused_stays(self):
        for rows in [["poles 3 1", "tie 7 3"], ["poles 3 1", "tie 7 3 1", "tie 2 1 3", "tie 7 3 1"]]:
            kept = list(rows)
            self.assertRaises(ValueError, read, rows)
            self.assertEqual(rows, kept)

    def test_what_is_told_is_the_asker_s_own(self):
        net = copy.deepcopy(NET)
        told = shown(net)
        told.append("poles")
        told[0] = ""
        self.assertEqual(net, NET)
        self.assertEqual(shown(net), ROWS)
        rows = list(ROWS)
        read(rows)[1].clear()
        self.assertEqual(rows, ROWS)
        self.assertEqual(read(rows), NET)

    def test_a_change_of_what_was_handed_in_changes_nothing(self):
        rows = list(ROWS)
        net = read(rows)
        rows.clear()
        self.assertEqual(net, NET)
        told = shown(net)
        net[1].clear()
        self.assertEqual(told, ROWS)
        self.assertEqual(shown(net), ["poles 1 3"])

    def test_asked_again_the_answer_is_equal(self):
        for turn in range(3):
            self.assertEqual(read(ROWS), NET)
            self.assert_bad_row(1, ["poles 0 1", "tie 1"])
            self.assert_bad_row(0, [])
            self.assertEqual(shown(NET), ROWS)
            self.assertEqual(read(["poles 0 1"]), ((0, 1), []))
            self.assertEqual(shown(((0, 1), [])), ["poles 0 1"])
            self.assertIsNot(read(ROWS), read(ROWS))
            self.assertIsNot(shown(NET), shown(NET))


if __name__ == "__main__":
    unittest.main()
