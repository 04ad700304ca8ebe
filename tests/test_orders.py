"""Orders by which a book stands, and trees that show that there is none: points 19 and 20."""

import time
import unittest
from itertools import product

from freshcells.books import Book
from freshcells.errors import BookError, TooMany, Unready
from freshcells.orders import choices_of, edges_of, gone_of, stands
from judge import is_tree
from model import Model
from things import all_of, book_of, drawn_book, ready_book, run_all

ASKED = (edges_of, choices_of, gone_of, stands)


class OrderCase(unittest.TestCase):

    def check(self, book, word):
        """See that the told order or tree is right, and that it is an order or a tree with this word."""
        ahead, model, told = all_of(book), Model(book.deeds()), stands(book)
        self.assertEqual((type(told), len(told)), (tuple, 2))
        self.assertEqual(told[0], "order" if word == "order" else "none")
        if word == "order":
            self.assertIs(type(told[1]), list)
            self.assertEqual(sorted(told[1]), sorted(book.order()))
            self.assertTrue(model.leads(told[1]))
        else:
            self.assertEqual(told[1][0], word)
            self.assertTrue(is_tree(model, told[1], model.edges()))
        self.assertEqual(all_of(book), ahead)
        return told[1]

    def check_links(self, book, edges, choices, gone):
        """See which edges, choices and reads from other runs are told."""
        self.assertEqual(edges_of(book), edges)
        self.assertEqual(choices_of(book), choices)
        self.assertEqual(gone_of(book), gone)
        model = Model(book.deeds())
        self.assertEqual((model.edges(), model.choices(), model.gone()), (edges, choices, gone))


class ReadyTest(OrderCase):

    def check_refused(self, book, kind, cell=None):
        """See that each question is refused."""
        ahead = all_of(book)
        for ask in ASKED:
            with self.assertRaises(kind) as caught:
                ask(book)
            self.assertIs(type(caught.exception), kind)
            self.assertIsInstance(caught.exception, BookError)
            if cell is not None:
                self.assertEqual(repr(caught.exception.cell), repr(cell))
        self.assertEqual(all_of(book), ahead)

    def test_a_bare_book(self):
        self.check_links(Book(), [], [], [])
        self.assertEqual(stands(Book()), ("order", []))
        book = run_all(book_of("a = 1"), 1)
        book.strike(1)
        self.assertEqual(stands(book), ("order", []))

    def test_never_run(self):
        book = book_of("a = 1", "show a")
        self.check_refused(book, Unready, 1)
        run_all(book, 1)
        self.check_refused(book, Unready, 2)
        book.move(2, 0)
        self.check_refused(book, Unready, 2)
        run_all(book, 2)
        self.check(book, "order")
        book.undo()
        self.check_refused(book, Unready, 2)

    def test_written_anew(self):
        book = run_all(book_of("a = 1", "show a", "show 3"), 1, 2, 3)
        book.edit(3, "show 4")
        self.check_refused(book, Unready, 3)
        book.edit(2, "show a + 1")
        self.check_refused(book, Unready, 2)
        book.move(3, 0)
        self.check_refused(book, Unready, 3)
        run_all(book, 3)
        self.check_refused(book, Unready, 2)
        run_all(book, 2)
        self.check(book, "order")

    def test_written_anew_with_what_shows_the_same(self):
        book = run_all(book_of("a = 1"), 1)
        book.edit(1, "a = 2")
        self.check_refused(book, Unready, 1)

    def test_written_back(self):
        book = run_all(book_of("a = 1", "show a"), 1, 2)
        book.edit(1, "a = 2")
        book.edit(1, "a = 1")
        book.edit(2, "show a")
        self.check(book, "order")
        book.edit(1, "a = 2")
        run_all(book, 1)
        book.edit(1, "a = 1")
        self.check_refused(book, Unready, 1)

    def test_too_many(self):
        for many in (8, 12):
            book = book_of(*["a = 1"] * many)
            self.check_refused(book, Unready, 1)
            run_all(book, *range(1, many))
            self.check_refused(book, Unready, many)
            run_all(book, many)
            self.check_refused(book, TooMany)
            book.edit(3, "a = 2")
            self.check_refused(book, Unready, 3)
            book.undo()
            for cell in range(8, many + 1):
                book.strike(cell)
            self.check(book, "order")


class LinksTest(OrderCase):

    def test_a_read_from_none(self):
        book = run_all(book_of("show a", "a = 1", "drop a", "show 1", "b = 1\nshow c\na = 1"), 1, 4, 2, 3, 5)
        self.check_links(book, [(1, 2, "a"), (1, 3, "a")], [], [])
        self.assertEqual(self.check(book, "order")[:1], [1])

    def test_a_read_from_none_of_what_the_cell_itself_sets(self):
        book = run_all(book_of("if 0: a = 1\nshow a", "a = 3"), 1, 2)
        self.check_links(book, [(1, 2, "a")], [], [])
        book = run_all(book_of("drop b\nshow a\na = 1"), 1)
        self.check_links(book, [], [], [])

    def test_a_read_from_a_last_run(self):
        book = run_all(book_of("show a", "a = 1", "a = 2\nb = 1", "drop a", "b = 3"), 5, 4, 3, 2, 1)
        self.check_links(book, [(2, 1, "a")], [(3, 2, 1, "a"), (4, 2, 1, "a")], [])
        row = self.check(book, "order")
        self.assertLess(row.index(2), row.index(1))

    def test_a_read_of_what_was_dropped(self):
        book = run_all(book_of("a = 1", "drop a", "show a"), 1, 2, 3)
        self.assertEqual(book.sources(3), (("a", 2),))
        self.check_links(book, [(2, 3, "a")], [(1, 2, 3, "a")], [])
        self.assertEqual(self.check(book, "order"), [1, 2, 3])

    def test_several_readers_and_names(self):
        book = run_all(book_of("a = 1\nb = 1", "show b + a", "b = a", "show a\nshow b"), 1, 2, 3, 4)
        edges = [(1, 2, "a"), (1, 2, "b"), (1, 3, "a"), (1, 4, "a"), (3, 4, "b")]
        self.check_links(book, edges, [(1, 3, 4, "b"), (3, 1, 2, "b")], [])
        self.check(book, "order")

    def test_each_edge_once(self):
        book = run_all(book_of("a = 1\nshow b", "show a\na = 2\nb = 1"), 1, 2)
        self.check_links(book, [(1, 2, "a"), (1, 2, "b")], [], [])
        book = run_all(book_of("a = 1", "show a\nb = a + a\nshow a", "drop a\na = 2\ndrop a"), 3, 1, 2)
        self.check_links(book, [(1, 2, "a")], [(3, 1, 2, "a")], [])

    def test_the_last_run_alone_counts(self):
        book = run_all(book_of("if b: a = 1", "b = 1", "show a", "b = 0"), 2, 1, 3)
        run_all(book, 4, 1)
        self.check_links(book, [(4, 1, "b")], [(2, 4, 1, "b")], [(3, "a")])

    def test_what_a_fault_leaves_undone_does_not_count(self):
        book = run_all(book_of("show 1 // 0\na = 1", "a = 2\nshow b\na = 3", "show a"), 1, 2, 3)
        self.check_links(book, [(2, 3, "a")], [], [])

    def test_what_a_cell_may_do_but_did_not_does_not_count(self):
        book = run_all(book_of("if 0: a = 1\nif 0: show b", "a = 2\nb = 1", "show a"), 1, 2, 3)
        self.check_links(book, [(2, 3, "a")], [], [])

    def test_gone(self):
        book = run_all(book_of("a = 1\nb = 2", "show a\nshow b", "b = 3"), 1, 2)
        book.strike(1)
        run_all(book, 3)
        self.check_links(book, [], [], [(2, "a"), (2, "b")])
        self.assertIn(self.check(book, "gone"), [("gone", 2, "a"), ("gone", 2, "b")])
        book.undo()
        book.undo()
        run_all(book, 3)
        self.check_links(book, [(1, 2, "a"), (1, 2, "b")], [(3, 1, 2, "b")], [])
        self.check(book, "order")

    def test_an_elder_run(self):
        book = run_all(book_of("a = 1", "show a"), 1, 2, 1)
        self.check_links(book, [], [], [(2, "a")])
        self.assertEqual(stands(book), ("none", ("gone", 2, "a")))
        run_all(book, 2)
        self.check(book, "order")

    def test_a_run_of_the_cell_itself(self):
        book = run_all(book_of("a = 1", "a = a + 1"), 1, 2, 2)
        self.check_links(book, [], [], [(2, "a")])
        self.assertEqual(stands(book), ("none", ("gone", 2, "a")))

    def test_gone_is_sorted_by_cells_and_names(self):
        book = run_all(book_of("c = 1\nb = 1\na = 1", "show c\nshow b\nshow a", "show b\nshow a"), 1, 3, 2)
        book.move(3, 0)
        book.strike(1)
        self.check_links(book, [], [], [(2, "a"), (2, "b"), (2, "c"), (3, "a"), (3, "b")])

    def test_kinds_and_own(self):
        book = run_all(book_of("show b", "a = 1", "b = 1", "show a", "a = 2", "show c"), 1, 2, 4, 5, 3)
        run_all(book, 6)
        told = [ask(book) for ask in ASKED]
        self.assertEqual([type(thing) for thing in told], [list, list, list, tuple])
        self.assertTrue(all(type(thing) is tuple for thing in told[0] + told[1]))
        for thing in told[:3] + [told[3][1]]:
            kept = list(thing)
            thing.append(None)
            thing.reverse()
            self.assertNotEqual(kept, thing)
        self.assertEqual([ask(book)[-1:] for ask in ASKED][:2], [[(2, 4, "a")], [(5, 2, 4, "a")]])
        self.check(book, "order")


class StandsTest(OrderCase):

    def test_the_order_of_the_runs(self):
        book = run_all(book_of("show c", "b = a\nc = b", "a = 1"), 3, 2, 1)
        self.assertEqual(stands(book), ("order", [3, 2, 1]))

    def test_a_cell_is_kept_from_between(self):
        book = run_all(book_of("a = 1", "show a", "a = 2", "show a"), 3, 4, 1, 2)
        row = self.check(book, "order")
        self.assertIn(row, [[1, 2, 3, 4], [3, 4, 1, 2]])

    def test_a_ring_of_two(self):
        book = run_all(book_of("a = 1\nshow b", "b = 1\nshow a"), 1, 0, 2)
        tree = self.check(book, "ring")
        self.assertEqual(sorted(tree[1]), [(1, 2, "b"), (2, 1, "a")])

    def test_a_ring_of_more(self):
        book = run_all(book_of("a = 1\nshow b", "b = 1\nshow c", "c = 1\nshow a"), 1, 0, 2, 0, 3)
        self.assertEqual(len(self.check(book, "ring")[1]), 3)
        book = run_all(book_of("a = 1\nshow b", "c = a", "b = c\nshow 2", "show 5"), 4, 1)
        run_all(book, 2, 3)
        self.check(book, "order")

    def test_either_ends_in_a_ring(self):
        # The third cell comes behind the first one and ahead of the second one, which read `n` from the first one.
        book = run_all(book_of("n = 1\nshow x", "y = n", "x = 1\nn = 2\nshow y"), 1, 2, 0, 3)
        self.check_links(book, [(1, 2, "n"), (1, 3, "x"), (3, 2, "y")], [(3, 1, 2, "n")], [])
        tree = self.check(book, "either")
        self.assertEqual(tree[1], (3, 1, 2, "n"))
        self.assertEqual([tree[2][0], tree[3][0]], ["ring", "ring"])
        self.assertIn((3, 1, "n"), tree[2][1])
        self.assertIn((2, 3, "n"), tree[3][1])

    def test_all_books_of_three_such_cells(self):
        texts = ("a = 1", "show a", "a = 1\nshow b", "b = 1\nshow a", "drop a\nb = 1", "b = a")
        found = {}
        for picked in product(texts, repeat=3):
            for row in ((1, 2, 3), (3, 0, 2, 1), (1, 2, 0, 3, 1), (1, 0, 2, 0, 3)):
                book = run_all(book_of(*picked), *row)
                word = self.check_all(book)
                found[word] = found.get(word, 0) + 1
        for word in ("order", "gone", "ring"):
            self.assertGreater(found[word], 10, found)

    def check_all(self, book):
        """See that a book's order or tree is right, and that an order is told just where one of all does it."""
        model = Model(book.deeds())
        self.check_links(book, model.edges(), model.choices(), model.gone())
        word, told = stands(book)
        self.assertEqual(word, "order" if model.orders() else "none")
        self.check(book, word if word == "order" else told[0])
        return word if word == "order" else told[0]

    def test_drawn_books(self):
        found = {}
        for seed in range(700):
            names = ("a", "b", "c", "d")[:2 + seed % 3]
            word = self.check_all(ready_book(seed, 2 + seed % 4, names))
            found[word] = found.get(word, 0) + 1
        for seed in range(4000):
            book = ready_book(seed, 5, ("a", "b", "c", "d"))
            if stands(book)[1][:1] == ("either",):
                found["either"] = found.get("either", 0) + 1
                self.check_all(book)
        for word, many in (("order", 200), ("gone", 20), ("ring", 20), ("either", 5)):
            self.assertGreater(found[word], many, found)

    def test_drawn_rows_of_deeds(self):
        found = 0
        for seed in range(400):
            book = drawn_book(seed, 40, 4)
            model = Model(book.deeds())
            if model.unready() is None:
                found += 1
                self.check_all(book)
                continue
            for ask in ASKED:
                with self.assertRaises(Unready) as caught:
                    ask(book)
                self.assertEqual(caught.exception.cell, model.unready())
        self.assertGreater(found, 15)

    def test_great_books_end_soon(self):
        start = time.monotonic()
        for many in (6, 7):
            row = list(range(1, many + 1))
            for text in ("a = a + 1\nb = b + 1", "if 1: a = 1\nshow b\nb = a", "drop a\na = 1\nshow a + b\nb = 2"):
                book = run_all(book_of(*["a = 1\nb = 1"] + [text] * (many - 1)), *row)
                self.check(book, "order")
                for at in range(1, many):
                    again = run_all(book_of(*["a = 1\nb = 1"] + [text] * (many - 1)), *row[:at], 0, *row[at:])
                    stands(again)
            for seed in range(300):
                book = ready_book(seed, many, ("a", "b"))
                word, told = stands(book)
                self.check(book, word if word == "order" else told[0])
        self.assertLess(time.monotonic() - start, 10)

    def test_no_order_of_seven_cells_where_none_is_told(self):
        found = 0
        for seed in range(60):
            book = ready_book(seed, 7, ("a", "b"))
            word, _ = stands(book)
            if word == "none" and gone_of(book) == [] and found < 3:
                found += 1
                self.assertEqual(Model(book.deeds()).orders(), [])
        self.assertEqual(found, 3)

    def test_the_tree_is_the_askers_own(self):
        book = run_all(book_of("n = 1\nshow x", "y = n", "x = 1\nn = 2\nshow y"), 1, 2, 0, 3)
        told = stands(book)[1]
        kept = repr(told)
        told[2][1].clear()
        told[3][1].append(7)
        self.assertEqual(repr(stands(book)[1]), kept)


if __name__ == "__main__":
    unittest.main()
