"""The whole: point 3, as far as books, the top, plans and leavings go, by what the book itself does in trials."""

import unittest
from itertools import product

from freshcells.books import played
from freshcells.leavings import leavings, shown_by
from freshcells.plans import fence_of, fewest, mends
from freshcells.tops import is_fresh, reason, stale
from things import all_of, drawn_book


def behind(book, emptied, row):
    """Tell the outcomes behind a plan, in the book's order, as its own runs tell them."""
    def do(told):
        if emptied:
            told.empty()
        for cell in row:
            told.run(cell)
        return [told.outcome(cell) for cell in told.order()]
    return book.trial(do)


class WholeTest(unittest.TestCase):

    def setUp(self):
        self.books = [drawn_book(seed, 24, 3) for seed in range(1000, 1120)]

    def test_fresh_and_the_reasons_of_all_others(self):
        for book in self.books:
            wanted = behind(book, True, book.order())
            for at, cell in enumerate(book.order()):
                fresh = book.outcome(cell) == wanted[at]
                self.assertIs(is_fresh(book, cell), fresh)
                self.assertIs(cell in stale(book), not fresh)
                self.assertIs(reason(book, cell) is None, fresh)
                if not fresh:
                    self.check_reason(book, cell, reason(book, cell))

    def check_reason(self, book, cell, told):
        """See that a reason tells what the book's own deeds show."""
        run = book.last(cell)
        if told[0] != "read":
            self.assertEqual(told, ("unrun",) if run is None else ("text", run))
            return
        word, name, then, now, last, setter = told
        self.assertEqual((word, last), ("read", run))
        self.assertIn((name, setter), book.sources(run))
        ahead = book.order()[:book.order().index(cell)]
        room = book.trial(lambda other: (other.empty(), [other.run(one) for one in ahead], other.room())[-1])
        self.assertEqual(now, room.get(name))
        self.assertNotEqual(now, then)

    def test_the_plan_mends_and_no_row_of_fewer_runs_does(self):
        for book in self.books:
            wanted = behind(book, True, book.order())
            emptied, row = fewest(book)
            self.assertEqual(behind(book, emptied, row), wanted)
            for many in range(len(row) + emptied):
                for other in product(book.order(), repeat=many):
                    self.assertNotEqual(behind(book, False, other), wanted)
                    self.assertFalse(mends(book, False, list(other)))
            for many in range(len(row)):
                for other in product(book.order(), repeat=many):
                    self.assertNotEqual(behind(book, True, other), wanted)
                    self.assertFalse(mends(book, True, list(other)))

    def test_leavings_are_shown_by_the_told_row_and_by_no_shorter_one(self):
        for book in self.books:
            for name, run in leavings(book):
                self.assertEqual(book.setter(name), run)
                self.assertIn(name, book.room())
                row = shown_by(book, name)
                for most in (1, 2, 3, 4):
                    self.assertEqual(shown_by(book, name, most=most), row if row and len(row) <= most else None)

    def test_undone_and_taken_up_again_all_is_the_same(self):
        for book in self.books:
            ahead = all_of(book)
            plan, fence = fewest(book), fence_of(book)
            many = len(book.deeds())
            for _ in range(many):
                book.undo()
            for _ in range(many):
                book.redo()
            self.assertEqual(all_of(book), ahead)
            self.assertEqual((fewest(book), fence_of(book)), (plan, fence))
            anew = played(book.deeds())
            self.assertEqual(all_of(anew)[0], ahead[0])
            self.assertEqual((fewest(anew), fence_of(anew)), (plan, fence))


if __name__ == "__main__":
    unittest.main()
