"""Leavings and the rows that show them: points 17 and 18."""

import time
import unittest
from random import Random

from freshcells.books import Book
from freshcells.errors import NoName, NoPlace, TooMany
from freshcells.leavings import leavings, shown_by
from model import Model
from things import all_of, drawn_book, no_numbers, no_texts


def book_of(*texts):
    """Tell a book with these cells, each run once."""
    book = Book()
    for text in texts:
        book.run(book.put(text))
    return book


def waiting_book(seed):
    """Tell a drawn book of three cells, that may show a name of the room only when another one stands right."""
    draw = Random(seed)
    book = book_of("a = 7\nb = 0\nc = 0")
    book.strike(1)
    for _ in range(3):
        one, two, three = (draw.choice("abc") for _ in range(3))
        book.put(draw.choice((f"if {one} // {draw.randrange(1, 4)}: show {two}", f"{one} = {one} + 1",
                              f"if {one}: {two} = {three}", f"if {one}: {two} = 1", f"{one} = 2")))
    book.run(draw.choice(book.order()))
    return book


def crossing_book(seed):
    """Tell a drawn book of four cells, one of which reads `a`, drops it and reads it again: what differs behind it is
    what it has set on the way."""
    draw = Random(seed)
    book = book_of("a = 7\nb = 0\nc = 1")
    book.strike(1)
    book.put(draw.choice(("b = a\ndrop a\nshow a", "if 1: c = a - 6\ndrop a\nb = a", "drop b\nif a: b = 3\ndrop a\nshow a")))
    for _ in range(3):
        rows = [draw.choice(("drop c", "drop b", "c = b", "b = c", "c = 1", "b = b - 1", "if b: c = 0", "show c", "d = b",
                             "if b // 3: show 1", "if d // 5: show 2", "if c: drop b", "if 0: show a", "a = 1"))
                for _ in range(draw.randrange(1, 3))]
        book.put("\n".join(rows), place=draw.randrange(len(book) + 1))
    return book


class LeavingsTest(unittest.TestCase):

    def test_none(self):
        self.assertEqual(leavings(Book()), [])
        book = book_of("a = 1\nb = 2", "show a")
        self.assertEqual(leavings(book), [])
        book.move(1, 1)
        self.assertEqual(leavings(book), [])
        book.strike(2)
        self.assertEqual(leavings(book), [])

    def test_a_struck_cell(self):
        book = book_of("b = 2\na = 1", "show a", "ab = 3")
        book.strike(1)
        self.assertEqual(leavings(book), [("a", 1), ("b", 1)])
        book.strike(3)
        self.assertEqual(leavings(book), [("a", 1), ("ab", 3), ("b", 1)])
        book.empty()
        self.assertEqual(leavings(book), [])

    def test_written_anew(self):
        book = book_of("a = 1\nb = 2", "show a")
        book.edit(1, "a = 1")
        self.assertEqual(leavings(book), [("a", 1), ("b", 1)])
        book.edit(1, "a = 1\nb = 2")
        self.assertEqual(leavings(book), [])
        book.edit(1, "a = 7")
        book.run(1)
        self.assertEqual(leavings(book), [("b", 1)])
        book.edit(1, "a = 1\nb = 2")
        self.assertEqual(leavings(book), [("a", 3)])
        book.run(1)
        self.assertEqual(leavings(book), [])

    def test_set_by_an_elder_run(self):
        book = book_of("if c: a = 1\nc = 0", "c = 1")
        self.assertEqual(leavings(book), [])
        book = book_of("c = 1", "if c: a = 1\nb = 1")
        book.edit(1, "c = 0")
        book.run(1)
        book.run(2)
        self.assertEqual((book.setter("a"), book.last(2), leavings(book)), (2, 4, []))
        book.edit(2, "b = 1")
        book.run(2)
        self.assertEqual(leavings(book), [("a", 2)])

    def test_set_again_by_a_cell_that_stands(self):
        book = book_of("a = 1", "a = a")
        book.strike(1)
        self.assertEqual(leavings(book), [])

    def test_dropped_by_a_gone_cell(self):
        book = book_of("a = 1", "drop a\ndrop b")
        book.strike(2)
        self.assertEqual((leavings(book), book.setter("a")), ([], 2))

    def test_undone(self):
        book = book_of("a = 1")
        book.strike(1)
        book.undo()
        self.assertEqual(leavings(book), [])
        book.redo()
        self.assertEqual(leavings(book), [("a", 1)])

    def test_kinds_and_own(self):
        book = book_of("a = 1")
        book.strike(1)
        told = leavings(book)
        self.assertEqual((type(told), type(told[0])), (list, tuple))
        told.clear()
        self.assertEqual(leavings(book), [("a", 1)])

    def test_drawn_books_against_the_model(self):
        found = 0
        for seed in range(400):
            book = drawn_book(seed, 30, 6)
            ahead = all_of(book)
            self.assertEqual(leavings(book), Model(book.deeds()).leavings())
            self.assertEqual(all_of(book), ahead)
            found += len(leavings(book))
        self.assertGreater(found, 100)


class ShownByTest(unittest.TestCase):

    def check(self, book, name, many, most=4):
        """See how many runs the told row has, and that it shows the name."""
        row = shown_by(book, name, most=most)
        if many is None:
            self.assertIsNone(row)
            return
        self.assertIs(type(row), list)
        self.assertEqual(len(row), many)
        self.assertTrue(Model(book.deeds()).shows(name, row))

    def check_refused(self, kind, ask):
        """See that a thing is refused; tell the refusal."""
        with self.assertRaises(kind) as caught:
            ask()
        self.assertIs(type(caught.exception), kind)
        return caught.exception

    def test_one_run(self):
        book = book_of("a = 1", "b = a", "show a", "show b")
        book.strike(1)
        self.check(book, "a", 1)
        self.check(book, "b", 1)
        self.assertIn(shown_by(book, "a"), ([2], [3]))
        self.assertEqual(shown_by(book, "b"), [4])

    def test_a_name_that_is_no_leaving(self):
        book = book_of("a = 1", "show a")
        self.assertEqual(leavings(book), [])
        self.assertEqual(shown_by(book, "a"), [2])

    def test_one_to_four_runs(self):
        for wait in range(5):
            book = book_of("a = 7\nb = 0")
            book.strike(1)
            count = book.put("b = b + 1")
            show = book.put(f"if b // {wait}: show a" if wait else "show a")
            self.check(book, "a", wait + 1 if wait < 4 else None)
            if wait < 4:
                self.assertEqual(shown_by(book, "a"), [count] * wait + [show])
            for most in (1, 2, 3, 4):
                self.check(book, "a", wait + 1 if wait < most else None, most)

    def test_several_cells_on_the_way(self):
        book = book_of("a = 7\nb = 0\nc = 0")
        book.strike(1)
        for text in ("if c: show a", "if b: c = b", "b = 3", "show 1", "b = 0"):
            book.put(text)
        self.assertEqual(shown_by(book, "a"), [4, 3, 2])
        self.check(book, "a", None, 2)

    def test_from_the_room_as_it_is(self):
        book = book_of("a = 7\nb = 0", "b = b + 1", "if b // 2: show a")
        self.assertEqual(book.room(), {"a": 7, "b": 1})
        self.assertEqual(shown_by(book, "a"), [2, 3])
        book.run(2)
        self.assertEqual(shown_by(book, "a"), [3])

    def test_none_where_no_row_does(self):
        book = book_of("a = 1", "a = 2\nshow a", "drop a", "show 5\na = 3")
        book.strike(1)
        self.check(book, "a", None)
        for cell in (2, 3, 4):
            book.strike(cell)
        self.assertEqual(book.order(), [])
        self.check(book, "a", None)

    def test_what_is_set_ahead_of_the_reading_is_not_shown(self):
        book = book_of("a = 1\nb = 0\nc = 1")
        book.strike(1)
        book.put("if b: show a")
        book.put("a = 1\nb = 1")
        self.check(book, "a", None)
        book.put("b = c")
        self.assertEqual(shown_by(book, "a"), [4, 2])

    def test_a_fault_ahead_of_the_reading(self):
        book = book_of("a = 1\nb = 0")
        book.strike(1)
        book.put("show 1 // b + a")
        self.check(book, "a", None)
        self.check(book, "b", 1)
        book.put("b = 1")
        self.assertEqual(shown_by(book, "a"), [3, 2])

    def test_no_name(self):
        book = book_of("a = 1\nb = 2", "drop b")
        for name in ("b", "c", "abcd", "", "A", " a", "a ", "show", "a" * 2000):
            for most in (4, 0, None, True):
                refusal = self.check_refused(NoName, lambda: shown_by(book, name, most=most))
                self.assertEqual((refusal.name, isinstance(refusal, LookupError)), (name, True))
        for thing in no_texts():
            refusal = self.check_refused(NoName, lambda: shown_by(book, thing))
            self.assertIs(type(refusal.name), str)
        self.check_refused(NoName, lambda: shown_by(Book(), "a"))

    def test_no_place(self):
        for many in (2, 6):
            book = book_of(*["a = 1"] * many)
            for most in no_numbers() + [0, -1, 5, 6, 10 ** 39, -10 ** 39]:
                self.check_refused(NoPlace, lambda: shown_by(book, "a", most=most))
                self.check_refused(NoName, lambda: shown_by(book, "b", most=most))

    def test_too_many(self):
        book = book_of("a = 1", *["show a"] * 4)
        self.check(book, "a", 1)
        book.put("show 1")
        for most in (1, 2, 3, 4):
            self.check_refused(TooMany, lambda: shown_by(book, "a", most=most))
        self.check_refused(TooMany, lambda: shown_by(book, "a"))
        self.check_refused(NoName, lambda: shown_by(book, "b"))
        book.strike(2)
        self.check(book, "a", 1)

    def test_most_is_handed_in_by_its_name(self):
        with self.assertRaises(TypeError):
            shown_by(book_of("a = 1", "show a"), "a", 4)

    def test_the_row_is_the_askers_own_and_nothing_is_changed(self):
        book = book_of("a = 7\nb = 0", "b = b + 1", "if b // 2: show a")
        book.undo()
        ahead = all_of(book)
        for name in ("a", "b"):
            shown_by(book, name).clear()
            self.assertEqual(shown_by(book, name), shown_by(book, name))
            self.assertNotEqual(shown_by(book, name), [])
        self.assertEqual(all_of(book), ahead)

    def test_drawn_books_against_the_model(self):
        found = {}
        for seed in range(360):
            book = (waiting_book(seed), drawn_book(seed, 25, 3), crossing_book(seed))[seed % 3]
            ahead, model = all_of(book), Model(book.deeds())
            for name in ("a",) if seed % 3 == 2 else model.room:
                many = model.shown_many(name, 4)
                for most in (1, 2, 3, 4):
                    self.check(book, name, many if many is not None and many <= most else None, most)
                found[many] = found.get(many, 0) + 1
            self.assertEqual(all_of(book), ahead)
        for many in (None, 1, 2, 3):
            self.assertGreater(found.get(many, 0), 1, found)

    def test_a_read_behind_dropping_lacks_either_way(self):
        # Without `a` the first of these ends where it reads it, with it where it reads it again: both lack `a`. What
        # differs is what it has set on the way.
        book = book_of("a = 1\nb = 0", "if 1: b = a\ndrop a\nshow a", "show b", "if b: show 3")
        book.strike(1)
        book.run(book.put("a = 1\nb = 0"))
        self.assertEqual(shown_by(book, "a"), [2, 3])
        book.strike(3)
        self.assertEqual(shown_by(book, "a"), [2, 4])
        self.check(book, "a", None, 1)

    def test_what_is_dropped_is_dropped_in_both_rooms(self):
        book = book_of("a = 1\nb = 0\nc = 1")
        book.strike(1)
        for text in ("if 1: b = a\ndrop a\nshow a", "drop c", "d = b\nshow c"):
            book.put(text)
        self.check(book, "a", None)

    def waiting_for_none(self, *texts):
        """Tell a book of five cells that never ran, behind one that is gone and set these names."""
        book = book_of("a = 5\nb = 0\nc = 0\nxy = 0")
        book.strike(1)
        for text in texts:
            book.put(text)
        return book

    def check_soon(self, book, told, seconds):
        """See that three hundred questions for names and their rows end in so many seconds."""
        start = time.process_time()
        for _ in range(300 // len(told)):
            for name, row in told.items():
                self.assertEqual(shown_by(book, name), row)
        self.assertLess(time.process_time() - start, seconds)

    def test_where_no_row_shows_a_name_it_is_told_soon(self):
        text = "b = b + c\nc = c + 1\nxy = b - c\nb = c\nc = xy\nshow b"
        told = {"a": None, "xy": None, "b": [2], "c": [2]}
        self.check_soon(self.waiting_for_none(*[text] * 5), told, 2)
        self.check_soon(self.waiting_for_none(*[text.replace("1", str(many)) for many in range(1, 6)]), told, 2)
        self.check_soon(self.waiting_for_none(*[text.replace("show b", "if b // 999 // 99: show a")] * 5), {"a": None}, 2)

    def test_where_only_a_long_row_shows_a_name_it_is_told_soon(self):
        book = self.waiting_for_none("b = b + 1", "c = c + 1", "xy = xy + 1", "b = b - 1", "if b * c * xy: show a")
        self.check_soon(book, {"a": [2, 3, 4, 6]}, 2)
        book = self.waiting_for_none("b = b + 1", "c = b * 2", "xy = c // 2", "b = 0 - b", "if xy // 2: show a")
        self.check(book, "a", None)
        self.check_soon(book, {"a": None}, 2)

    def test_pairs_of_rooms_that_came_ahead_are_not_lost(self):
        # Rows come back to rooms that stood already, on a longer way.
        book = self.waiting_for_none("b = 1 - b", "if b: c = 1 - c", "if c: xy = 1", "show 1", "if xy: show a")
        self.assertEqual(shown_by(book, "a"), [2, 3, 4, 6])
        self.check(book, "a", None, 3)

    def test_great_books_end_soon(self):
        long_row = "if a * b // 3 + c * a - b * 2 + 1: "
        texts = [f"{long_row}a = {many} - a // 2 + b\n" * 5 + "show 1" for many in range(1, 6)]
        book = book_of("a = 1\nb = 1\nc = 1\nz = 1")
        book.strike(1)
        for text in texts:
            book.put(text)
        self.check(book, "z", None)
        self.check(book, "a", 1)


if __name__ == "__main__":
    unittest.main()
