"""A desk and its lines."""

import copy
import unittest

import cases
import samples
from linkorcut.books import Book
from linkorcut.desk import Desk
from linkorcut.errors import BadLine, BadRow, NetError, NoDeed, NoNumber, NotThere, Over, TooMany, Twice

# A step of twins and one of a tie: the linker needs that tie, the cutter wins with any.
NET = ((0, 2), [(1, 0, 1), (2, 0, 1), (9, 1, 2)])
ROWS = ["poles 0 2", "tie 1 0 1", "tie 2 0 1", "tie 9 1 2"]
TWINS = ["poles 0 1", "tie 4 0 1", "tie 6 0 1"]
SAME_POLES = ["poles 2 2", "tie 0 2 3", "tie 1 3 3"]
POLES_UNMET = ["poles 0 9", "tie 3 4 5", "tie 4 5 6"]
LOOKS = ["net", "deeds", "turn", "outcome", "wins"]

NO_LINES = [
    "", " ", "  ", "\n", ".", "takes", "Take 1", "TAKE 1", "take1", "tak 1", "nets", "Net", "NET", "deed", "Deeds",
    "turns", "outcomes", "win", "Wins", "backs", "Back", "Again", "againagain", "starts", "poles 0 2", "tie 1 0 1",
    "linker", "cutter", "over", "over linker", "start", "help", "1", "0", "undo",
    # Blanks ahead, behind, and two between.
    " net", "net ", " deeds", "deeds ", " turn", "turn ", " outcome", "outcome ", " wins", "wins ", " back", "back ",
    " again", "again ", " take 1", "take 1 ", "take  1", "start linker ", " start linker", "start  linker",
    "take\t1", "take\n1", "net\n", "\nnet", "turn\r", "take 1\n", "start linker\n", "back\t", "take\u00a01",
    # Words that are missing, or too many.
    "take", "take ", "take 1 2", "take 1 net", "start ", "start linker cutter", "start linker 1", "net 1", "deeds 1",
    "turn linker", "outcome 1", "wins linker", "back 1", "back back", "again 1", "net net", "1 take", "linker start",
    # Numbers that are not written so.
    "take 01", "take 00", "take +1", "take -1", "take -0", "take 1.0", "take 1e0", "take 0x1", "take 1_0", "take x",
    "take one", "take 1,", "take \u0661", "take \u00b9", "take " + "1" * 61, "take 0" + "1" * 59, "take None",
    "take 1" + "0" * 60, "take 9" + "9" * 280,
    # Sides that are none.
    "start Linker", "start LINKER", "start cutte", "start cutters", "start first", "start 1", "start None",
    "start link", "start linker,cutter", "start over"]


def rows_of(net):
    """The texts of a net, by the words of the document."""
    rows = [f"poles {net[0][0]} {net[0][1]}"]
    return rows + [f"tie {name} {one} {other}" for name, one, other in net[1]]


def wins_of(net, side):
    """The ties with which a side wins, all plays gone through."""
    seen = {}
    found = []
    for tie in samples.names(net):
        if samples.played(samples.behind(net, side, tie), samples.other(side), seen) == side:
            found.append(tie)
    return found


class Case(cases.Case):

    def all_told(self, desk):
        return [desk.asked(line) for line in LOOKS]

    def assert_answers(self, desk, lines):
        """Asks lines in order, each given with its answer."""
        for line, answer in lines:
            told = desk.asked(line)
            self.assertEqual(told, answer, line)
            self.assertEqual([type(told)] + [type(text) for text in told], [list] + [str] * len(told))

    def assert_unchanged(self, desk, refusal, line):
        before = self.all_told(desk)
        self.assert_refused_with(refusal, desk.asked, line)
        self.assertEqual(self.all_told(desk), before, line)

    def assert_as_book(self, desk, book, counted=True):
        """Holds each look at a desk against a book, and where counted against all plays."""
        net, won = book.lying(), book.won()
        self.assertEqual(desk.asked("net"), rows_of(net))
        self.assertEqual(desk.asked("deeds"), [f"{side} {tie}" for side, tie in book.deeds()])
        self.assertEqual(desk.asked("turn"), [book.turn() if won is None else "over " + won])
        if counted:
            self.assertEqual(desk.asked("outcome"), [samples.played_word(net)])
            found = wins_of(net, book.turn()) if won is None else []
            self.assertEqual(desk.asked("wins"), [" ".join([str(tie) for tie in found]) or "."])


class Lines(Case):

    def test_by_the_names_of_the_interface(self):
        self.assertEqual(Desk(rows=ROWS).asked(line="turn"), ["linker"])

    def test_at_first(self):
        self.assert_answers(Desk(ROWS), [
            ("net", ROWS), ("deeds", []), ("turn", ["linker"]), ("outcome", ["first"]), ("wins", ["9"])])

    def test_a_play_that_the_linker_wins(self):
        self.assert_answers(Desk(ROWS), [
            ("take 9", ["poles 0 1", "tie 1 0 1", "tie 2 0 1"]), ("turn", ["cutter"]), ("deeds", ["linker 9"]),
            ("outcome", ["linker"]), ("wins", ["."]), ("net", ["poles 0 1", "tie 1 0 1", "tie 2 0 1"]),
            ("take 2", ["poles 0 1", "tie 1 0 1"]), ("turn", ["linker"]), ("outcome", ["first"]), ("wins", ["1"]),
            ("take 1", ["poles 0 0"]), ("turn", ["over linker"]), ("outcome", ["linker"]), ("wins", ["."]),
            ("deeds", ["linker 9", "cutter 2", "linker 1"]), ("net", ["poles 0 0"])])

    def test_a_play_that_the_cutter_wins(self):
        self.assert_answers(Desk(ROWS), [
            ("take 1", ["poles 0 2", "tie 2 0 0", "tie 9 0 2"]), ("wins", ["9"]), ("outcome", ["first"]),
            ("take 9", ["poles 0 2", "tie 2 0 0"]), ("turn", ["over cutter"]), ("outcome", ["cutter"]),
            ("wins", ["."]), ("deeds", ["linker 1", "cutter 9"]), ("net", ["poles 0 2", "tie 2 0 0"])])

    def test_back_and_again(self):
        self.assert_answers(Desk(ROWS), [
            ("take 9", ["poles 0 1", "tie 1 0 1", "tie 2 0 1"]), ("take 2", ["poles 0 1", "tie 1 0 1"]),
            ("back", ["poles 0 1", "tie 1 0 1", "tie 2 0 1"]), ("deeds", ["linker 9"]), ("back", ROWS),
            ("deeds", []), ("turn", ["linker"]), ("again", ["poles 0 1", "tie 1 0 1", "tie 2 0 1"]),
            ("turn", ["cutter"]), ("again", ["poles 0 1", "tie 1 0 1"]), ("deeds", ["linker 9", "cutter 2"]),
            ("take 1", ["poles 0 0"]), ("back", ["poles 0 1", "tie 1 0 1"]), ("turn", ["linker"])])

    def test_several_wins(self):
        desk = Desk(ROWS)
        desk.asked("start cutter")
        self.assert_answers(desk, [("wins", ["1 2 9"]), ("turn", ["cutter"]), ("outcome", ["first"])])

    def test_wins_where_the_outcome_is_one_s_own(self):
        self.assert_answers(Desk(TWINS), [("wins", ["4 6"]), ("outcome", ["linker"]), ("start cutter", TWINS),
                                          ("wins", ["."]), ("outcome", ["linker"])])

    def test_looking_changes_nothing(self):
        desk = Desk(ROWS)
        for line in ("take 9", "take 2", "back"):
            desk.asked(line)
            first = self.all_told(desk)
            self.assertEqual(self.all_told(desk), first)
        # What was taken back is still there to do again.
        self.assertEqual(desk.asked("again"), ["poles 0 1", "tie 1 0 1"])

    def test_rows_in_any_order(self):
        desk = Desk(["poles 2 0", "tie 9 2 1", "tie 1 0 1", "tie 2 1 0"])
        self.assertEqual(desk.asked("net"), ROWS)
        self.assertEqual(desk.asked("start linker"), ROWS)

    def test_drawn_orders_held_against_a_book(self):
        seen = {}
        nets = samples.small_nets()[::23] + samples.nets_by(12, 5, 4) + samples.nets_by(5, 6, 4) + [NET]
        for at, net in enumerate(nets):
            desk, book, chance = Desk(rows_of(net)), Book(net, "linker"), samples.figures(at)
            for turn in range(25):
                ask, tie = next(chance) % 12, (samples.names(net) + [999])[next(chance) % (len(net[1]) + 1)]
                if ask == 0:
                    side = samples.SIDES[next(chance) % 2]
                    book, line = Book(net, side), f"start {side}"
                    self.assertEqual(desk.asked(line), rows_of(net))
                else:
                    asked = [book.back, book.again, lambda: book.take(tie)][(0, 0, 1, 1, 2, 2, 2, 2, 2, 2, 2)[ask - 1]]
                    line = ["back", "again", f"take {tie}"][(0, 0, 1, 1, 2, 2, 2, 2, 2, 2, 2)[ask - 1]]
                    self.assert_same(desk, line, asked, seen)
                self.assert_as_book(desk, book)
        self.assertEqual(sorted(seen), [
            ("again", "NoDeed"), ("again", "told"), ("back", "NoDeed"), ("back", "told"), ("take", "NotThere"),
            ("take", "Over"), ("take", "told")])

    def assert_same(self, desk, line, ask, seen):
        """Looks whether a line is answered, or refused, as a book is asked."""
        try:
            net = ask()
        except NetError as refusal:
            self.assert_unchanged(desk, refusal, line)
            seen[(line.split()[0], type(refusal).__name__)] = True
        else:
            self.assertEqual(desk.asked(line), rows_of(net))
            seen[(line.split()[0], "told")] = True

    def test_fourteen_ties_held_against_a_book(self):
        for at, net in enumerate([samples.FULL] + samples.nets_by(6, 14, 8)):
            desk, book, taker = Desk(rows_of(net)), Book(net, "linker"), samples.drawn_answers(at)
            while book.won() is None:
                tie = taker(book.lying(), None)
                self.assertEqual(desk.asked(f"take {tie}"), rows_of(book.take(tie)))
                self.assert_as_book(desk, book, len(book.lying()[1]) <= 6)
            while book.deeds():
                self.assertEqual(desk.asked("back"), rows_of(book.back()))
                self.assert_as_book(desk, book, False)
            self.assert_unchanged(desk, NoDeed(), "back")


class Starts(Case):

    def test_either_side_begins(self):
        for side in samples.SIDES:
            desk = Desk(ROWS)
            self.assert_answers(desk, [(f"start {side}", ROWS), ("turn", [side]), ("deeds", []), ("net", ROWS)])
            desk.asked("take 1")
            self.assert_answers(desk, [("deeds", [f"{side} 1"]), ("turn", [samples.other(side)])])

    def test_behind_deeds_done_and_undone(self):
        for before in samples.SIDES:
            for side in samples.SIDES:
                desk = Desk(ROWS)
                for line in (f"start {before}", "take 1", "take 2", "back"):
                    desk.asked(line)
                self.assert_answers(desk, [
                    (f"start {side}", ROWS), ("turn", [side]), ("deeds", []), ("net", ROWS), ("outcome", ["first"])])
                self.assert_unchanged(desk, NoDeed(), "again")
                self.assert_unchanged(desk, NoDeed(), "back")

    def test_behind_all_deeds_undone(self):
        desk = Desk(ROWS)
        for line in ("take 1", "take 2", "back", "back", "start linker"):
            desk.asked(line)
        self.assert_unchanged(desk, NoDeed(), "again")

    def test_behind_the_end(self):
        desk = Desk(ROWS)
        for line in ("take 1", "take 9"):
            desk.asked(line)
        self.assert_answers(desk, [
            ("turn", ["over cutter"]), ("start cutter", ROWS), ("turn", ["cutter"]), ("take 9", ROWS[:3]),
            ("turn", ["over cutter"]), ("deeds", ["cutter 9"]), ("start linker", ROWS), ("turn", ["linker"])])

    def test_the_first_net_again_and_again(self):
        desk = Desk(ROWS)
        for turn in range(3):
            for side in samples.SIDES:
                desk.asked("take 2")
                self.assert_answers(desk, [(f"start {side}", ROWS), ("net", ROWS)])


class Edges(Case):

    def test_no_ties(self):
        self.assert_answers(Desk(["poles 3 5"]), [
            ("net", ["poles 3 5"]), ("turn", ["over cutter"]), ("outcome", ["cutter"]), ("wins", ["."]),
            ("deeds", []), ("start cutter", ["poles 3 5"]), ("turn", ["over cutter"])])
        self.assert_answers(Desk(["poles 3 3"]), [
            ("net", ["poles 3 3"]), ("turn", ["over linker"]), ("outcome", ["linker"]), ("wins", ["."]),
            ("deeds", []), ("start cutter", ["poles 3 3"]), ("turn", ["over linker"])])

    def test_over_before_the_first_deed(self):
        for rows, side in ((SAME_POLES, "linker"), (POLES_UNMET, "cutter")):
            desk = Desk(rows)
            for line in ("net", "start linker", "start cutter"):
                self.assert_answers(desk, [
                    (line, rows), ("turn", ["over " + side]), ("outcome", [side]), ("wins", ["."]), ("deeds", [])])
                for tie in (0, 1, 3, 4, 99):
                    self.assert_unchanged(desk, Over(side), f"take {tie}")
                self.assert_unchanged(desk, NoDeed(), "back")
                self.assert_unchanged(desk, NoDeed(), "again")

    def test_sixty_figures(self):
        great = samples.SIXTY
        poles, last = f"poles 0 {great - 1}", f"tie {great - 1} {great - 2} {great - 1}"
        self.assert_answers(Desk(rows_of(samples.GREAT)), [
            ("net", rows_of(samples.GREAT)), ("outcome", ["cutter"]), ("start cutter", rows_of(samples.GREAT)),
            ("wins", [f"3 {great - 1} {great}"]), ("start linker", rows_of(samples.GREAT)),
            (f"take {great}", [poles, f"tie 3 0 {great - 2}", last]), ("deeds", [f"linker {great}"]),
            ("take 3", [poles, last]), ("turn", ["over cutter"])])
        self.assert_unchanged(Desk(ROWS), NotThere(great), f"take {great}")

    def test_fourteen_ties_and_eight_places(self):
        self.assert_answers(Desk(rows_of(samples.FULL)), [
            ("net", rows_of(samples.FULL)), ("outcome", ["linker"]), ("wins", [" ".join(map(str, range(14)))]),
            ("start cutter", rows_of(samples.FULL)), ("wins", ["."])])

    def test_the_tie_0(self):
        desk = Desk(["poles 0 1", "tie 0 0 1"])
        self.assert_answers(desk, [("wins", ["0"]), ("take 0", ["poles 0 0"]), ("deeds", ["linker 0"])])


class Refused(Case):

    def test_no_lines(self):
        for rows in (ROWS, TWINS, SAME_POLES, POLES_UNMET, ["poles 1 10"]):
            desk = Desk(rows)
            before = self.all_told(desk)
            for line in NO_LINES:
                self.assertEqual(vars(self.assert_refused(BadLine, desk.asked, line)), {})
            self.assertEqual(self.all_told(desk), before)

    def test_no_lines_behind_deeds_done_and_undone(self):
        desk = Desk(ROWS)
        for line in ("take 9", "take 2", "back"):
            desk.asked(line)
        before = self.all_told(desk)
        for line in NO_LINES:
            self.assert_refused(BadLine, desk.asked, line)
        self.assertEqual(self.all_told(desk), before)
        self.assertEqual(desk.asked("again"), ["poles 0 1", "tie 1 0 1"])

    def test_a_line_that_is_none_comes_ahead_of_the_book_s_refusals(self):
        desk = Desk(ROWS)
        for line in ("take 1", "take 9"):
            desk.asked(line)
        self.assert_unchanged(desk, Over("cutter"), "take 77")
        for line in ("take 077", "take -1", "take", "back 1", "again again", "take 1 1"):
            self.assert_unchanged(desk, BadLine(), line)

    def test_not_there(self):
        desk = Desk(ROWS)
        for tie in (0, 3, 10, 99, samples.SIXTY):
            self.assert_unchanged(desk, NotThere(tie), f"take {tie}")
        desk.asked("take 1")
        self.assert_unchanged(desk, NotThere(1), "take 1")

    def test_over(self):
        desk = Desk(ROWS)
        for line in ("start cutter", "take 9"):
            desk.asked(line)
        for tie in (1, 2, 9, 77):
            self.assert_unchanged(desk, Over("cutter"), f"take {tie}")
        self.assertEqual(desk.asked("back"), ROWS)

    def test_back_and_again_of_nothing(self):
        desk = Desk(ROWS)
        self.assert_unchanged(desk, NoDeed(), "back")
        self.assert_unchanged(desk, NoDeed(), "again")
        desk.asked("take 1")
        self.assert_unchanged(desk, NoDeed(), "again")

    def test_what_is_refused_forgets_nothing(self):
        desk = Desk(ROWS)
        for line in ("take 9", "take 2", "back", "back"):
            desk.asked(line)
        self.assert_unchanged(desk, NotThere(77), "take 77")
        self.assert_unchanged(desk, NoDeed(), "back")
        self.assert_unchanged(desk, BadLine(), "start nobody")
        self.assert_answers(desk, [
            ("again", ["poles 0 1", "tie 1 0 1", "tie 2 0 1"]), ("again", ["poles 0 1", "tie 1 0 1"])])

    def test_rows(self):
        self.assert_refused_with(BadRow(0), Desk, [])
        self.assert_refused_with(BadRow(0), Desk, ["tie 1 0 1", "poles 0 2"])
        self.assert_refused_with(BadRow(1), Desk, ["poles 0 2", "poles 0 2"])
        self.assert_refused_with(BadRow(2), Desk, ["poles 0 2", "tie 1 0 1", "tie 01 0 1", ""])
        self.assert_refused_with(BadRow(1), Desk, ["poles 0 2", "tie 1 0 1" + "0" * 60])
        self.assert_refused_with(Twice(1), Desk, ["poles 0 2", "tie 1 0 1", "tie 1 0 2"])
        self.assert_refused(TooMany, Desk, ["poles 0 1"] + [f"tie {name} 0 1" for name in range(15)])
        self.assert_refused(TooMany, Desk, ["poles 0 1"] + [f"tie {name} 0 {name}" for name in range(9)])

    def test_no_number_is_written_that_no_net_has(self):
        for rows in (["poles -1 0"], ["poles 0 1" + "0" * 60]):
            refusal = self.assert_refused(BadRow, Desk, rows)
            self.assertNotIsInstance(refusal, NoNumber)
            self.assertEqual(refusal.row, 0)


class KeptApart(Case):
    """What is handed in and what is told change nothing in one another."""

    LINES = ["take 9", "net", "deeds", "take 2", "deeds", "back", "back", "again", "turn", "wins", "outcome", "again",
             "deeds", "start cutter", "net", "turn", "deeds", "take 1", "wins", "start linker", "net"]

    def test_what_is_handed_in_stays(self):
        rows = copy.deepcopy(ROWS)
        desk = Desk(rows)
        for line in self.LINES:
            desk.asked(line)
        self.assertEqual(rows, ROWS)

    def test_a_desk_keeps_its_own_rows(self):
        rows = copy.deepcopy(ROWS)
        desk, kept = Desk(rows), Desk(ROWS)
        rows.clear()
        for line in self.LINES:
            self.assertEqual(desk.asked(line), kept.asked(line))
            rows.append("tie 9 0 0")

    def test_what_is_told_is_new_each_time(self):
        desk = Desk(ROWS)
        told = [desk.asked(line) for line in self.LINES + ["net", "net", "deeds", "deeds", "start linker", "wins"]]
        self.assert_new(ROWS, *told)

    def test_what_was_told_stays(self):
        desk, told, early = Desk(ROWS), [], []
        for line in self.LINES:
            told.append(desk.asked(line))
            early.append(copy.deepcopy(told[-1]))
            self.assertEqual(told, early)

    def test_what_is_done_to_what_is_told_changes_nothing(self):
        desk, kept = Desk(ROWS), Desk(ROWS)
        for line in self.LINES:
            answer = kept.asked(line)
            told = desk.asked(line)
            self.assertEqual(told, answer)
            told.clear()
            told.append("poles 0 0")
            for look in LOOKS:
                desk.asked(look).append("spoilt")
            self.assertEqual(self.all_told(desk), self.all_told(kept))

    def test_desks_do_not_meddle(self):
        one, other = Desk(ROWS), Desk(ROWS)
        one.asked("take 9")
        one.asked("back")
        self.assertEqual(other.asked("net"), ROWS)
        self.assert_unchanged(other, NoDeed(), "again")
        other.asked("start cutter")
        self.assertEqual(one.asked("turn"), ["linker"])

    def test_asked_again_the_answer_is_equal(self):
        one, other = Desk(ROWS), Desk(copy.deepcopy(ROWS))
        first = [one.asked(line) for line in self.LINES]
        Desk(TWINS).asked("take 4")
        self.assertEqual([other.asked(line) for line in self.LINES], first)


if __name__ == "__main__":
    unittest.main()
