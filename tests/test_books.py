"""Books: deeds done, taken back and done again."""

import copy
import unittest

import cases
import samples
from linkorcut.books import Book
from linkorcut.errors import NoDeed, NotThere, Over

TWINS = ((0, 1), [(4, 0, 1), (6, 0, 1)])
STRAND = ((0, 2), [(4, 0, 1), (6, 1, 2)])
OVER_AT_FIRST = [samples.SAME_POLES, samples.ONE_PLACE, samples.POLES_UNMET, samples.NO_TIES]
NUMBERS = [-1, -2, -(10 ** 60), 1000, samples.SIXTY, 10 ** 60, 10 ** 90]


class Kept:
    """A book kept by the words alone: the nets behind each deed, and how many of the deeds are done."""

    def __init__(self, net, begins):
        self.nets, self.row, self.at, self.begins = [net], [], 0, begins

    def net(self):
        return self.nets[self.at]

    def turn(self):
        return self.begins if self.at % 2 == 0 else samples.other(self.begins)

    def deeds(self):
        return self.row[:self.at]

    def take(self, tie):
        if samples.won(self.net()) is not None:
            return Over(samples.won(self.net()))
        if tie not in samples.names(self.net()):
            return NotThere(tie)
        self.row = self.row[:self.at] + [(self.turn(), tie)]
        self.nets = self.nets[:self.at + 1] + [samples.behind(self.net(), self.turn(), tie)]
        self.at += 1
        return None

    def back(self):
        if self.at == 0:
            return NoDeed()
        self.at -= 1
        return None

    def again(self):
        if self.at == len(self.row):
            return NoDeed()
        self.at += 1
        return None


class Case(cases.Case):

    def told(self, book):
        return (book.lying(), book.turn(), book.won(), book.deeds())

    def assert_lies(self, book, net, turn, deeds):
        """Looks at all that a book tells."""
        self.assertEqual(self.told(book), (net, turn, samples.won(net), deeds))

    def assert_unchanged(self, book, refusal, ask, *things):
        before = self.told(book)
        self.assert_refused_with(refusal, ask, *things)
        self.assertEqual(self.told(book), before)

    def assert_as_kept(self, book, kept, refusal, ask, *things):
        """Does with a book what was done with a kept one, and looks at both."""
        if refusal is None:
            self.assertEqual(ask(*things), kept.net())
        else:
            self.assert_unchanged(book, refusal, ask, *things)
        self.assert_lies(book, kept.net(), kept.turn(), kept.deeds())

    def played_out(self, net, begins, seed):
        """A book with drawn ties taken until it is over, and all nets that lay there."""
        book, nets, taker = Book(net, begins), [net], samples.drawn_answers(seed)
        while samples.won(nets[-1]) is None:
            tie = taker(nets[-1], None)
            nets.append(samples.behind(nets[-1], book.turn(), tie))
            self.assertEqual(book.take(tie), nets[-1])
        return book, nets


class Ordinary(Case):

    def test_by_the_names_of_the_interface(self):
        book = Book(net=TWINS, begins="cutter")
        self.assertEqual(book.take(tie=4), ((0, 1), [(6, 0, 1)]))

    def test_taken_by_the_side_whose_turn_it_is(self):
        book = Book(STRAND, "linker")
        self.assert_lies(book, STRAND, "linker", [])
        self.assertEqual(book.take(6), ((0, 1), [(4, 0, 1)]))
        self.assert_lies(book, ((0, 1), [(4, 0, 1)]), "cutter", [("linker", 6)])
        self.assertEqual(book.take(4), ((0, 1), []))
        self.assert_lies(book, ((0, 1), []), "linker", [("linker", 6), ("cutter", 4)])
        self.assertEqual(book.won(), "cutter")

    def test_back_and_again(self):
        book = Book(TWINS, "cutter")
        book.take(6)
        book.take(4)
        self.assertEqual(book.won(), "linker")
        self.assertEqual(book.back(), ((0, 1), [(4, 0, 1)]))
        self.assert_lies(book, ((0, 1), [(4, 0, 1)]), "linker", [("cutter", 6)])
        self.assertEqual(book.back(), TWINS)
        self.assert_lies(book, TWINS, "cutter", [])
        self.assertEqual(book.again(), ((0, 1), [(4, 0, 1)]))
        self.assert_lies(book, ((0, 1), [(4, 0, 1)]), "linker", [("cutter", 6)])
        self.assertEqual(book.again(), ((0, 0), []))
        self.assert_lies(book, ((0, 0), []), "cutter", [("cutter", 6), ("linker", 4)])

    def test_the_last_one_taken_back_is_done_again(self):
        book = Book(samples.FULL, "linker")
        for tie in (0, 3, 9):
            book.take(tie)
        book.back()
        book.back()
        book.again()
        self.assertEqual(book.deeds(), [("linker", 0), ("cutter", 3)])
        book.back()
        book.again()
        book.again()
        self.assertEqual(book.deeds(), [("linker", 0), ("cutter", 3), ("linker", 9)])

    def test_a_deed_of_its_own_makes_all_undone_ones_forgotten(self):
        book = Book(samples.FULL, "linker")
        for tie in (0, 3, 9):
            book.take(tie)
        book.back()
        book.back()
        book.take(12)
        self.assert_unchanged(book, NoDeed(), book.again)
        book.back()
        self.assertEqual(book.deeds(), [("linker", 0)])
        book.again()
        self.assertEqual(book.deeds(), [("linker", 0), ("cutter", 12)])
        self.assert_unchanged(book, NoDeed(), book.again)

    def test_the_same_deed_of_its_own_forgets_too(self):
        book = Book(samples.FULL, "linker")
        book.take(0)
        book.take(3)
        book.back()
        book.back()
        book.take(0)
        self.assert_unchanged(book, NoDeed(), book.again)

    def test_done_again_forgets_nothing(self):
        book = Book(samples.FULL, "cutter")
        for tie in (1, 2, 4, 5):
            book.take(tie)
        for many in range(4):
            book.back()
        book.again()
        book.again()
        book.again()
        book.again()
        self.assertEqual([tie for side, tie in book.deeds()], [1, 2, 4, 5])

    def test_drawn_orders(self):
        seen = {}
        nets = samples.small_nets()[::7] + samples.NAMED + samples.nets_by(15, 8, 5) + samples.nets_by(8, 14, 8)
        for at, net in enumerate(nets):
            for begins in samples.SIDES:
                book, kept, chance = Book(net, begins), Kept(net, begins), samples.figures(at)
                for turn in range(40):
                    ask, tie = next(chance) % 8, (samples.names(net) + [999, -1])[next(chance) % (len(net[1]) + 2)]
                    if ask < 4:
                        refusal, asked = kept.take(tie), "take"
                        self.assert_as_kept(book, kept, refusal, book.take, tie)
                    elif ask < 6:
                        refusal, asked = kept.back(), "back"
                        self.assert_as_kept(book, kept, refusal, book.back)
                    else:
                        refusal, asked = kept.again(), "again"
                        self.assert_as_kept(book, kept, refusal, book.again)
                    key = (asked, type(refusal).__name__)
                    seen[key] = seen.get(key, 0) + 1
        self.assertEqual(sorted(seen), [
            ("again", "NoDeed"), ("again", "NoneType"), ("back", "NoDeed"), ("back", "NoneType"),
            ("take", "NoneType"), ("take", "NotThere"), ("take", "Over")])
        self.assertGreater(min(seen.values()), 30)


class Edges(Case):

    def test_back_to_the_first_net_and_again_to_the_last(self):
        nets = samples.NAMED + samples.nets_by(20, 9, 6) + samples.nets_by(10, 14, 8) + [samples.steps([2] * 9)]
        for at, net in enumerate(nets):
            for begins in samples.SIDES:
                book, nets = self.played_out(net, begins, at)
                last, many = self.told(book), len(nets) - 1
                for left in nets[:-1][::-1]:
                    self.assertEqual(book.back(), left)
                    self.assertEqual(book.lying(), left)
                self.assert_lies(book, net, begins, [])
                self.assert_unchanged(book, NoDeed(), book.back)
                for left in nets[1:]:
                    self.assertEqual(book.again(), left)
                self.assertEqual((self.told(book), len(book.deeds())), (last, many))
                self.assert_unchanged(book, NoDeed(), book.again)

    def test_over_before_the_first_deed(self):
        for net in OVER_AT_FIRST:
            for begins in samples.SIDES:
                book = Book(net, begins)
                self.assert_lies(book, net, begins, [])
                self.assertIsNotNone(book.won())

    def test_the_turn_goes_on_also_where_it_is_over(self):
        for begins in samples.SIDES:
            book = Book(((0, 1), [(9, 0, 1), (10, 1, 1)]), begins)
            book.take(9)
            self.assertEqual((book.won(), book.turn()), (begins, samples.other(begins)))
            book.back()
            self.assertEqual((book.won(), book.turn()), (None, begins))

    def test_back_from_the_end_and_on_in_another_way(self):
        book = Book(STRAND, "linker")
        book.take(4)
        book.take(6)
        self.assertEqual(book.won(), "cutter")
        book.back()
        book.back()
        book.take(6)
        self.assert_lies(book, ((0, 1), [(4, 0, 1)]), "cutter", [("linker", 6)])
        self.assert_unchanged(book, NoDeed(), book.again)

    def test_ties_that_came_to_join_a_place_to_itself_come_back(self):
        net = ((0, 2), [(1, 0, 1), (2, 0, 1), (3, 1, 2)])
        book = Book(net, "linker")
        self.assertEqual(book.take(1), ((0, 2), [(2, 0, 0), (3, 0, 2)]))
        self.assertEqual(book.take(2), ((0, 2), [(3, 0, 2)]))
        self.assertEqual(book.back(), ((0, 2), [(2, 0, 0), (3, 0, 2)]))
        self.assertEqual(book.back(), net)

    def test_sixty_figures(self):
        great = samples.SIXTY
        book = Book(samples.GREAT, "linker")
        left = ((great - 2, great), [(3, great - 2, great), (great, 0, great)])
        self.assertEqual(book.take(great - 1), left)
        self.assertEqual(book.back(), samples.GREAT)
        self.assertEqual(book.again(), left)
        self.assert_lies(book, left, "cutter", [("linker", great - 1)])


class Refused(Case):

    def test_nothing_to_take_back(self):
        for net in samples.NAMED:
            for begins in samples.SIDES:
                book = Book(net, begins)
                self.assert_unchanged(book, NoDeed(), book.back)

    def test_nothing_to_do_again(self):
        for net in samples.NAMED:
            for begins in samples.SIDES:
                book = Book(net, begins)
                self.assert_unchanged(book, NoDeed(), book.again)
        book = Book(samples.FULL, "linker")
        book.take(3)
        self.assert_unchanged(book, NoDeed(), book.again)
        book.take(13)
        self.assert_unchanged(book, NoDeed(), book.again)

    def test_not_there(self):
        book = Book(samples.FULL, "linker")
        for tie in NUMBERS + [14]:
            self.assert_unchanged(book, NotThere(tie), book.take, tie)
        book.take(3)
        for tie in NUMBERS + [14, 3]:
            self.assert_unchanged(book, NotThere(tie), book.take, tie)

    def test_over_comes_ahead_of_not_there(self):
        book = Book(samples.FULL, "linker")
        book.take(13)
        for tie in samples.names(samples.FULL) + NUMBERS:
            self.assert_unchanged(book, Over("linker"), book.take, tie)
        for net in OVER_AT_FIRST:
            for begins in samples.SIDES:
                book = Book(net, begins)
                for tie in samples.names(net) + NUMBERS:
                    self.assert_unchanged(book, Over(samples.won(net)), book.take, tie)

    def test_a_refused_deed_forgets_nothing(self):
        book = Book(samples.FULL, "linker")
        for tie in (0, 3, 9):
            book.take(tie)
        book.back()
        book.back()
        for tie in NUMBERS + [14, 0]:
            self.assert_unchanged(book, NotThere(tie), book.take, tie)
        book.again()
        book.again()
        self.assertEqual(book.deeds(), [("linker", 0), ("cutter", 3), ("linker", 9)])

    def test_a_refused_back_forgets_nothing(self):
        book = Book(samples.FULL, "linker")
        book.take(0)
        book.take(3)
        book.back()
        book.back()
        self.assert_unchanged(book, NoDeed(), book.back)
        book.again()
        book.again()
        self.assertEqual(book.deeds(), [("linker", 0), ("cutter", 3)])

    def test_a_refused_again_takes_nothing_away(self):
        book = Book(samples.FULL, "linker")
        book.take(0)
        book.take(3)
        self.assert_unchanged(book, NoDeed(), book.again)
        self.assertEqual(book.back(), samples.behind(samples.FULL, "linker", 0))
        self.assertEqual(book.back(), samples.FULL)

    def test_a_refused_deed_of_a_play_that_is_over_leaves_what_can_be_taken_back(self):
        book = Book(TWINS, "cutter")
        book.take(6)
        book.take(4)
        self.assert_unchanged(book, Over("linker"), book.take, 4)
        self.assertEqual(book.back(), ((0, 1), [(4, 0, 1)]))
        self.assertEqual(book.again(), ((0, 0), []))


class KeptApart(Case):
    """What is handed in and what is told change nothing in one another."""

    def asked(self, book):
        """All that a book told along deeds done, taken back and done again."""
        told = [book.lying(), book.deeds()]
        for ask in (lambda: book.take(0), lambda: book.take(12), book.back, book.back, book.again, book.again,
                    book.back, lambda: book.take(5), lambda: book.take(3), book.back, book.again):
            told.extend([ask(), book.lying(), book.deeds()])
        return told

    def test_what_is_handed_in_stays(self):
        net = copy.deepcopy(samples.FULL)
        self.asked(Book(net, "linker"))
        self.assertEqual(net, samples.FULL)

    def test_a_book_keeps_its_own_net(self):
        for begins in samples.SIDES:
            net = copy.deepcopy(samples.FULL)
            book = Book(net, begins)
            book.take(0)
            net[1].clear()
            self.assertEqual(book.back(), samples.FULL)
            net[1].append((0, 7, 7))
            self.assertEqual(book.again(), samples.behind(samples.FULL, begins, 0))
            book.back()
            self.assert_lies(book, samples.FULL, begins, [])
            self.assertEqual(self.asked(book), self.asked(Book(samples.FULL, begins)))

    def test_what_is_told_is_new_each_time(self):
        told = self.asked(Book(samples.FULL, "cutter"))
        self.assert_new(samples.FULL, *told)

    def test_what_was_told_stays(self):
        book = Book(samples.FULL, "cutter")
        told, early = [], []
        for ask in (lambda: book.take(0), lambda: book.take(12), book.back, book.back, book.again):
            told.extend([ask(), book.lying(), book.deeds()])
            early.extend(copy.deepcopy(told[-3:]))
            self.assertEqual(told, early)

    def test_what_is_done_to_what_is_told_changes_nothing(self):
        book, kept = Book(samples.FULL, "linker"), Kept(samples.FULL, "linker")
        asked = [("take", 0), ("take", 12), ("back",), ("back",), ("again",), ("again",), ("back",), ("take", 5),
                 ("back",), ("again",)]
        for ask in asked:
            self.assertIsNone(getattr(kept, ask[0])(*ask[1:]))
            for each in [getattr(book, ask[0])(*ask[1:])[1], book.lying()[1], book.deeds()]:
                each.clear()
                each.append((99, 0, 7))
            self.assert_lies(book, kept.net(), kept.turn(), kept.deeds())

    def test_books_do_not_meddle(self):
        one, other = Book(samples.FULL, "linker"), Book(samples.FULL, "linker")
        one.take(0)
        one.take(1)
        one.back()
        self.assert_lies(other, samples.FULL, "linker", [])
        self.assert_unchanged(other, NoDeed(), other.again)
        self.assert_unchanged(other, NoDeed(), other.back)
        other.take(5)
        one.again()
        self.assertEqual(one.deeds(), [("linker", 0), ("cutter", 1)])

    def test_asked_again_the_answer_is_equal(self):
        first = self.asked(Book(samples.FULL, "cutter"))
        self.asked(Book(samples.FULL, "linker"))
        self.assertEqual(self.asked(Book(copy.deepcopy(samples.FULL), "cutter")), first)


if __name__ == "__main__":
    unittest.main()
