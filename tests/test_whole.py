"""What the document promises over the whole program, and the names of its interface."""

import importlib
import inspect
import unittest

import cases
import samples
from linkorcut.blocks import lack_of, paper_of
from linkorcut.desk import Desk
from linkorcut.hands import PaperHand, paper_hand
from linkorcut.outcomes import outcome, winner, wins
from linkorcut.papers import outcome_stands, stands
from linkorcut.plays import Play, refereed
from linkorcut.rules import rule_of
from linkorcut.texts import shown
from linkorcut.tried import all_plays, tried

FUNCTIONS = {
    "nets": {
        "net_of": "poles ties", "places_of": "net", "names_of": "net", "ends_of": "net tie"},
    "texts": {"shown": "net", "read": "rows"},
    "parts": {
        "parts_by": "net row", "is_linked": "net", "is_parted": "net", "winner_of": "net", "bridges": "net"},
    "deeds": {
        "taken_out": "net tie", "drawn": "net tie", "done_by": "net side tie", "all_out": "net row",
        "all_drawn": "net row"},
    "rules": {"Rule": "net", "ByTrees": "net", "ByRest": "net", "rule_of": "side net"},
    "packing": {"packed": "rule row"},
    "blocks": {"thinned": "rule ones others", "paper_of": "rule", "lack_of": "rule"},
    "outcomes": {"outcome": "net", "winner": "net begins", "wins": "net side"},
    "papers": {"stands": "net side paper", "outcome_stands": "net told"},
    "hands": {
        "mended": "net side paper taken", "PaperHand": "net side begins", "paper_hand": "net side begins",
        "wish_hand": "numbers"},
    "plays": {"Play": "net begins", "refereed": "net begins linker cutter"},
    "books": {"Book": "net begins"},
    "tried": {"tried": "net begins", "all_plays": "net"},
    "desk": {"Desk": "rows"},
    "errors": {
        "NoNumber": "number", "Twice": "tie", "BadRow": "row", "NotThere": "tie", "OtherTurn": "side",
        "Over": "winner"},
}
METHODS = {
    "rules.Rule": {"ties": "", "rank": "row", "free": "row", "reach": "row"},
    "rules.ByTrees": {"ties": "", "rank": "row", "free": "row", "reach": "row"},
    "rules.ByRest": {"ties": "", "rank": "row", "free": "row", "reach": "row"},
    "hands.PaperHand": {"opening": "", "answer": "taken", "paper": "", "lying": ""},
    "plays.Play": {"lying": "", "turn": "", "won": "", "deed": "side tie", "deeds": ""},
    "books.Book": {"lying": "", "turn": "", "won": "", "deeds": "", "take": "tie", "back": "", "again": ""},
    "desk.Desk": {"asked": "line"},
}
WORDS = ["cutter", "first", "linker"]


def module(name):
    return importlib.import_module("linkorcut." + name)


def arguments(called):
    return " ".join(inspect.signature(called).parameters)


class Interface(unittest.TestCase):

    def test_functions_and_classes(self):
        for name, told in FUNCTIONS.items():
            for each, things in told.items():
                self.assertEqual(arguments(getattr(module(name), each)), things, (name, each))

    def test_methods(self):
        for place, told in METHODS.items():
            name, kind = place.split(".")
            for each, things in told.items():
                method = getattr(getattr(module(name), kind), each)
                self.assertEqual(arguments(method), ("self " + things).strip(), (place, each))

    def test_classes_stand_where_they_are_told(self):
        rules, errors = module("rules"), module("errors")
        self.assertEqual((rules.ByTrees.__bases__, rules.ByRest.__bases__), ((rules.Rule,), (rules.Rule,)))
        for name in list(FUNCTIONS["errors"]) + ["TooMany", "TooBig", "NoPaper", "NoDeed", "BadLine"]:
            self.assertEqual(getattr(errors, name).__bases__, (errors.NetError,))
        self.assertEqual(errors.NetError.__bases__, (ValueError,))


def small():
    """Nets whose plays can be gone through."""
    return samples.small_nets()[::2] + samples.nets_by(40, 6, 5) + samples.nets_by(20, 7, 5)


def great():
    return samples.NAMED + samples.nets_by(20, 14, 8) + samples.nets_by(12, 14, 6) + samples.nets_by(15, 11, 7)


class EveryRow:
    """A hand that goes through all rows of answers, one in each play of a net."""

    def __init__(self):
        self.row, self.at, self.over = [], 0, False

    def __call__(self, net, taken):
        names = samples.names(net)
        if self.at == len(self.row):
            self.row.append([0, len(names)])
        self.at += 1
        return names[self.row[self.at - 1][0]]

    def turn_over(self):
        """Goes on to the next row of answers."""
        self.at = 0
        while self.row and self.row[-1][0] + 1 == self.row[-1][1]:
            self.row.pop()
        if self.row:
            self.row[-1][0] += 1
        self.over = not self.row


class Promise(cases.Case):

    def assert_hangs_together(self, net, paper):
        """Looks at a cutter's paper by the words of the promise."""
        every = samples.with_thought(net)
        told = []
        for row in paper:
            left = [tie for tie in every if tie not in row]
            parts = samples.parts(net, left)
            bridges = []
            for tie in left:
                if len(samples.parts(net, [each for each in left if each != tie])) > len(parts):
                    bridges.append(tie)
            told.append((parts, sorted(bridges + row)))
        self.assertEqual(told[0], told[1], (net, paper))
        self.assertEqual(told[0][0], samples.parts(net, every), (net, paper))

    def assert_joins(self, net, paper):
        """Looks at a linker's paper by the words of the promise."""
        parts = [samples.parts(net, row) for row in paper]
        self.assertEqual(parts[0], parts[1], (net, paper))
        for row in paper:
            self.assertEqual(len(samples.places(net)) - len(parts[0]), len(row), (net, paper))
        self.assertEqual(len([part for part in parts[0] if net[0][0] in part and net[0][1] in part]), 1)

    def assert_promised(self, net, side, paper):
        self.assertFalse(set(paper[0]) & set(paper[1]))
        if side == "linker":
            self.assert_joins(net, paper)
        else:
            self.assert_hangs_together(net, paper)
        self.assertTrue(stands(net, side, paper))

    def assert_lacks(self, net, side):
        """Looks at a lack by ranks that are counted without the package."""
        ones, others, bar = lack_of(rule_of(side, net))
        counted = samples.RANKS[side]
        self.assertFalse(set(ones) & set(others))
        self.assertIn(samples.THOUGHT, ones)
        self.assertTrue(samples.free(net, counted, ones) and samples.free(net, counted, others))
        beside = [tie for tie in samples.names(net) if tie not in bar]
        self.assertEqual(len(ones) + len(others), len(beside) + 2 * counted(net, bar) + 1, (net, side))

    def test_just_one_of_three_with_papers(self):
        words = []
        for net in small() + great():
            told = outcome(net)
            words.append(told[0])
            self.assertTrue(outcome_stands(net, told), net)
            for at, side in enumerate(samples.SIDES):
                if told[0] == side:
                    self.assert_promised(net, side, told[1])
                    self.assertIsNone(lack_of(rule_of(side, net)))
                else:
                    self.assertIsNone(paper_of(rule_of(side, net)))
                    self.assert_lacks(net, side)
                if told[0] == "first":
                    tie, paper = told[1 + at]
                    self.assert_promised(samples.behind(net, side, tie), side, paper)
        self.assertEqual(sorted(set(words)), WORDS)

    def test_what_is_told_agrees_with_all_plays(self):
        words = []
        for net in small():
            word = samples.played_word(net)
            words.append(word)
            self.assertEqual((outcome(net)[0], all_plays(net)), (word, word), net)
            self.assertEqual(Desk(shown(net)).asked("outcome"), [word])
            for side in samples.SIDES:
                won = side if word == "first" else word
                self.assertEqual((winner(net, side), tried(net, side)), (won, won), net)
        self.assertEqual(sorted(set(words)), WORDS)

    def test_a_word_known_by_counting(self):
        for counts in ([2, 2, 2], [2, 1, 4], [1, 1, 5], [7], [1], [3, 0, 2], [2, 2, 2, 2, 2, 2, 2], [1, 3, 2, 2, 1]):
            self.assertEqual(outcome(samples.steps(counts))[0], samples.word_of_steps(counts))
        for counts in ([2, 2, 2], [2, 1, 4], [1, 1, 5], [7], [1], [3, 3, 3, 1], [1, 1, 1], [2, 2, 2, 2, 2, 3]):
            self.assertEqual(outcome(samples.strands(counts))[0], samples.word_of_strands(counts))

    def assert_wins_every_row(self, net, begins):
        """Lets a hand of a paper hand play against every row of answers; tells how many these are."""
        side = winner(net, begins)
        against, many = EveryRow(), 0
        while not against.over:
            hands = {side: paper_hand(net, side, side == begins), samples.other(side): against}
            won, deeds = refereed(net, begins, hands["linker"], hands["cutter"])
            self.assertEqual(won, side, (net, deeds))
            left, turn = net, begins
            for each, tie in deeds:
                self.assertEqual((each, samples.won(left)), (turn, None), (net, deeds))
                self.assertIn(tie, samples.names(left))
                left, turn = samples.behind(left, each, tie), samples.other(each)
            self.assertEqual(samples.won(left), side, (net, deeds))
            against.turn_over()
            many += 1
        return many

    def test_a_paper_hand_wins_against_every_row_of_answers(self):
        seen = {}
        known = [samples.steps([2, 2, 2]), samples.strands([2, 2, 2]), samples.strands([1, 2, 3])]
        for net in samples.small_nets()[::3] + samples.nets_by(12, 6, 4) + [samples.EVERY_PAIR_OF_FOUR] + known:
            for begins in samples.SIDES:
                many = self.assert_wins_every_row(net, begins)
                key = (winner(net, begins), begins)
                seen[key] = max(many, seen.get(key, 0))
        self.assertEqual(len(seen), 4)
        self.assertGreater(min(seen.values()), 8)

    def test_the_paper_stands_behind_each_deed_of_both(self):
        for at, net in enumerate(great()):
            for begins in samples.SIDES:
                side = winner(net, begins)
                hand, play = PaperHand(net, side, side == begins), Play(net, begins)
                if hand.opening() is not None:
                    play.deed(side, hand.opening())
                taker = samples.drawn_answers(at)
                while play.won() is None:
                    self.assertEqual(hand.lying(), play.lying())
                    taken = taker(play.lying(), None)
                    play.deed(samples.other(side), taken)
                    before = hand.paper()
                    play.deed(side, hand.answer(taken))
                    self.assert_promised(play.lying(), side, hand.paper())
                    # Mended by one tie for one: each row has lost just one.
                    for row, left in zip(before, hand.paper()):
                        self.assertEqual((len(left) + 1, [tie for tie in left if tie not in row]), (len(row), []))
                self.assertEqual((play.won(), hand.lying()), (side, play.lying()))

    def test_wins_lead_where_they_say(self):
        for net in samples.nets_by(20, 9, 6) + [samples.FULL]:
            for side in samples.SIDES:
                found = wins(net, side)
                self.assertEqual(found != [], winner(net, side) == side and net[1] != [], net)
                for tie in samples.names(net):
                    left = samples.behind(net, side, tie)
                    self.assertEqual(winner(left, samples.other(side)) == side, tie in found, (net, side, tie))

    def test_a_play_at_a_desk_by_its_wins(self):
        for net in samples.nets_by(12, 10, 6):
            for begins in samples.SIDES:
                desk, side = Desk(shown(net)), winner(net, begins)
                desk.asked(f"start {begins}")
                while not desk.asked("turn")[0].startswith("over "):
                    told = desk.asked("wins")[0].split(" ")
                    if desk.asked("turn") == [side]:
                        desk.asked("take " + told[-1])
                    else:
                        self.assertEqual(told, ["."])
                        desk.asked("take " + desk.asked("net")[-1].split(" ")[1])
                self.assertEqual(desk.asked("turn"), ["over " + side])


if __name__ == "__main__":
    unittest.main()
