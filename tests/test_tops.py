"""The top run, freshness and reasons: points 12, 13 and 14."""

import unittest

from freshcells.books import Book, played
from freshcells.errors import NoCell
from freshcells.tops import is_fresh, reason, stale, top, top_room
from model import Model
from things import all_of, book_of, drawn_book, no_cells

LACK_A = ((), ("lack", "a"))


def run_all(book, *row):
    """Run cells in turn; tell the book."""
    for cell in row or book.order():
        book.run(cell)
    return book


class TopTest(unittest.TestCase):

    def test_bare(self):
        self.assertEqual((top(Book()), top_room(Book()), stale(Book())), ([], {}, []))

    def test_in_the_order_of_the_book(self):
        book = book_of("show a", "a = 1\nshow a", "a = a + 1\nb = a")
        self.assertEqual(top(book), [(1, LACK_A), (2, ((1,), None)), (3, ((), None))])
        self.assertEqual(top_room(book), {"a": 2, "b": 2})
        book.move(1, 2)
        self.assertEqual(top(book), [(2, ((1,), None)), (3, ((), None)), (1, ((2,), None))])
        book.strike(3)
        self.assertEqual(top(book), [(2, ((1,), None)), (1, ((1,), None))])
        book.edit(2, "a = 5")
        self.assertEqual((top(book), top_room(book)), ([(2, ((), None)), (1, ((5,), None))], {"a": 5}))

    def test_in_an_empty_room(self):
        book = book_of("show a", "a = 1")
        book.run(2)
        self.assertEqual(top(book), [(1, LACK_A), (2, ((), None))])
        book = book_of("b = 2", "show a")
        run_all(book)
        self.assertEqual(top_room(book), {"b": 2})
        book.strike(1)
        self.assertEqual((top_room(book), book.room()), ({}, {"b": 2}))

    def test_behind_a_fault_it_goes_on(self):
        book = book_of("a = 2\nshow a\nb = a // 0\nc = 1", "drop a\nshow b", "show 1\na = 999", "show a * a * a * a",
                       "show a")
        self.assertEqual(top(book), [(1, ((2,), ("nought",))), (2, ((), ("lack", "b"))), (3, ((1,), None)),
                                     (4, ((), ("great",))), (5, ((999,), None))])
        self.assertEqual(top_room(book), {"a": 999})

    def test_nothing_in_the_book_is_changed(self):
        for seed in range(20):
            book = drawn_book(seed, 30, 6)
            ahead = all_of(book)
            for _ in range(2):
                told = top(book)
                room = top_room(book)
                left = stale(book)
                reasons = [reason(book, cell) for cell in book.order()]
                truths = [is_fresh(book, cell) for cell in book.order()]
                self.assertEqual(told, ahead[0]["top"])
                self.assertEqual(room, ahead[0]["top_room"])
                self.assertEqual(left, ahead[0]["stale"])
                self.assertEqual(reasons, ahead[0]["reasons"])
                self.assertEqual([not truth for truth in truths], [one is not None for one in reasons])
                told.clear()
                room["a"] = 77
                left.append(1)
            self.assertEqual(all_of(book), ahead)

    def test_kinds(self):
        book = run_all(book_of("a = 1\nshow a"))
        self.assertEqual([type(thing) for thing in (top(book), top(book)[0], top_room(book), stale(book))],
                         [list, tuple, dict, list])
        self.assertIs(is_fresh(book, 1), True)
        book.edit(1, "show 2")
        self.assertIs(is_fresh(book, 1), False)


class FreshTest(unittest.TestCase):

    def check(self, book, reasons):
        """See which cells are fresh, and why the others aren't."""
        self.assertEqual([reason(book, cell) for cell in book.order()], reasons)
        self.assertEqual([is_fresh(book, cell) for cell in book.order()], [one is None for one in reasons])
        self.assertEqual(stale(book), [cell for cell, one in zip(book.order(), reasons) if one is not None])

    def test_run_from_the_top(self):
        self.check(run_all(book_of("a = 1", "show a", "show b", "a = a + 1")), [None] * 4)

    def test_never_run(self):
        book = book_of("a = 1", "show 1", "show b")
        self.check(book, [("unrun",)] * 3)
        book.run(2)
        self.check(book, [("unrun",), None, ("unrun",)])
        book.edit(1, "a = 2")
        self.check(book, [("unrun",), None, ("unrun",)])

    def test_run_by_another_text(self):
        book = run_all(book_of("a = 1\nshow a", "show a"))
        book.edit(1, "a = 2\nshow a")
        self.check(book, [("text", 1), ("read", "a", 1, 2, 2, 1)])
        book.run(2)
        self.check(book, [("text", 1), ("read", "a", 1, 2, 3, 1)])
        book.run(1)
        self.check(book, [None, ("read", "a", 1, 2, 3, 1)])
        book.run(2)
        self.check(book, [None, None])

    def test_run_by_another_text_that_shows_the_same(self):
        book = run_all(book_of("a = 1", "show a"))
        book.edit(1, "a = 3 - 2")
        self.check(book, [None, None])
        book.edit(2, "show 1")
        self.check(book, [None, None])

    def test_written_anew_with_the_same_text(self):
        book = run_all(book_of("a = 1", "b = a\nshow a", "show b"))
        for text in ("show 9", "b = a\nshow a"):
            book.edit(2, text)
        self.check(book, [None, None, None])
        book.edit(1, "a = 2")
        self.check(book, [None, ("read", "a", 1, 2, 2, 1), ("read", "b", 1, 2, 3, 2)])
        book.edit(2, "b = a\nshow a")
        self.check(book, [None, ("read", "a", 1, 2, 2, 1), ("read", "b", 1, 2, 3, 2)])

    def test_reads_otherwise_and_shows_the_same(self):
        book = run_all(book_of("a = 1", "if a: show 5", "b = a"))
        book.edit(1, "a = 2")
        self.check(book, [None, None, None])

    def test_a_lacking_name(self):
        book = book_of("a = 1", "show a", "a = 2")
        run_all(book, 2, 1, 3)
        self.check(book, [None, ("read", "a", None, 1, 1, None), None])
        book.move(1, 2)
        self.check(book, [None, None, None])
        book.run(2)
        self.check(book, [("read", "a", 2, None, 4, 3), None, None])

    def test_none_is_not_nought(self):
        book = book_of("a = 0", "show a")
        run_all(book, 2)
        self.check(book, [("unrun",), ("read", "a", None, 0, 1, None)])
        book = book_of("show a", "a = 0")
        run_all(book, 2, 1)
        self.check(book, [("read", "a", 0, None, 2, 1), None])

    def test_the_first_name_that_was_read_otherwise(self):
        book = book_of("a = 1\nb = 1\nc = 1", "show c + a\nshow b", "b = 2", "a = 7", "show b")
        run_all(book, 1, 3, 4, 2)
        self.check(book, [None, ("read", "a", 7, 1, 4, 3), None, None, ("unrun",)])
        book.edit(1, "a = 7\nb = 1\nc = 1")
        self.check(book, [None, ("read", "b", 2, 1, 4, 2), None, None, ("unrun",)])
        book.edit(1, "a = 6\nb = 1\nc = 0")
        self.check(book, [None, ("read", "c", 1, 0, 4, 1), None, None, ("unrun",)])

    def test_in_the_order_of_the_reads_and_not_of_the_names(self):
        book = run_all(book_of("a = 1\nb = 2", "show b\nshow a"))
        book.edit(1, "a = 2\nb = 1")
        self.check(book, [None, ("read", "b", 2, 1, 2, 1)])

    def test_the_setter_is_that_ahead_of_the_run(self):
        book = book_of("a = 1", "show a", "a = 2")
        run_all(book, 3, 2, 1)
        self.check(book, [None, ("read", "a", 2, 1, 2, 1), None])
        book.strike(3)
        self.check(book, [None, ("read", "a", 2, 1, 2, 1)])
        book.empty()
        self.check(book, [None, ("read", "a", 2, 1, 2, 1)])

    def test_a_drop_is_a_setter(self):
        book = book_of("a = 1", "show a", "drop a")
        run_all(book, 1, 3, 2)
        self.check(book, [None, ("read", "a", None, 1, 3, 2), None])

    def test_its_own_elder_run_as_setter(self):
        book = run_all(book_of("a = 1", "a = a + 1\nshow a"), 1, 2, 2)
        self.check(book, [None, ("read", "a", 2, 1, 3, 2)])

    def test_now_is_what_stands_ahead_of_the_cell(self):
        book = run_all(book_of("a = 1", "a = a * 3\nshow a", "a = 8"), 3, 2, 1)
        self.check(book, [None, ("read", "a", 8, 1, 2, 1), None])

    def test_behind_a_fault(self):
        book = book_of("a = 4\nb = c", "show a", "c = 1")
        run_all(book, 1, 2)
        self.check(book, [None, None, ("unrun",)])
        run_all(book, 3, 1)
        self.check(book, [("read", "c", 1, None, 4, 3), None, None])

    def test_no_cell(self):
        book = run_all(book_of("a = 1", "show a"))
        book.strike(1)
        for each in (book, Book()):
            for cell in no_cells(each):
                for ask in (is_fresh, reason):
                    with self.assertRaises(NoCell) as caught:
                        ask(each, cell)
                    self.assertIs(type(caught.exception), NoCell)

    def test_drawn_books_against_the_model(self):
        for seed in range(400):
            book = drawn_book(seed, 25, 6)
            model = Model(book.deeds())
            self.assertEqual(top(book), list(zip(model.order, model.top())))
            self.assertEqual(top_room(book), dict(model.behind({}, model.order)[0]))
            self.check(book, [model.reason(cell) for cell in model.order])

    def test_fresh_just_where_a_run_from_the_top_shows_it(self):
        for seed in range(150):
            book = drawn_book(seed, 30, 6)
            anew = played([("put", book.wording(cell), at) for at, cell in enumerate(book.order())])
            for at, cell in enumerate(book.order()):
                self.assertEqual(is_fresh(book, cell), anew.run(at + 1) == book.outcome(cell))
                self.assertEqual(is_fresh(book, cell), reason(book, cell) is None)


if __name__ == "__main__":
    unittest.main()
