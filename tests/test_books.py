"""Books: point 10, and what point 2 says of them."""

import unittest

from freshcells.books import Book
from freshcells.errors import BookError, NoCell, NoPlace, NoRow, TooMany
from model import Model
from things import NAMES, all_of, book_of, do_drawn, drawn_book, no_cells, no_places, no_runs, no_texts, told_of
from random import Random

LACK_A = ((), ("lack", "a"))


class BookCase(unittest.TestCase):

    def check_refused(self, book, kind, ask):
        """Ask for what is refused, and see that it is refused so, and changes nothing."""
        ahead = all_of(book)
        with self.assertRaises(kind) as caught:
            ask()
        self.assertIs(type(caught.exception), kind)
        self.assertIsInstance(caught.exception, BookError)
        self.assertEqual(all_of(book), ahead)
        return caught.exception


class PutTest(BookCase):

    def test_a_bare_book(self):
        book = Book()
        self.assertEqual((len(book), book.order(), book.room(), book.deeds()), (0, [], {}, []))
        self.assertIsNone(book.setter("a"))

    def test_at_the_end(self):
        book = Book()
        self.assertEqual([book.put("show 1"), book.put("show 2"), book.put("show 3", place=None)], [1, 2, 3])
        self.assertEqual(book.order(), [1, 2, 3])
        self.assertEqual([book.wording(cell) for cell in (1, 2, 3)], ["show 1", "show 2", "show 3"])
        self.assertEqual(len(book), 3)
        self.assertEqual(book.deeds(), [("put", "show 1", 0), ("put", "show 2", 1), ("put", "show 3", 2)])

    def test_at_each_place(self):
        for many in range(12):
            for place in range(many + 1):
                book = book_of(*["show 1"] * many)
                self.assertEqual(book.put("show 2", place=place), many + 1)
                wanted = list(range(1, many + 1))
                wanted.insert(place, many + 1)
                self.assertEqual(book.order(), wanted)
                self.assertEqual(book.wording(many + 1), "show 2")
                self.assertEqual(book.deeds()[-1], ("put", "show 2", place))

    def test_no_number_is_given_twice(self):
        book = book_of("show 1", "show 2")
        book.strike(2)
        self.assertEqual(book.put("show 3"), 3)
        book.strike(1)
        book.strike(3)
        self.assertEqual(book.put("show 4", place=0), 4)
        self.assertEqual(book.order(), [4])

    def test_no_place(self):
        for many in (0, 1, 3, 12):
            book = book_of(*["show 1"] * many)
            for place in no_places(many):
                self.check_refused(book, NoPlace, lambda: book.put("show 1", place=place))
        book = book_of("show 1")
        book.put("show 2")
        self.assertEqual(book.order(), [1, 2])

    def test_no_row(self):
        book = book_of("show 1")
        for thing in no_texts():
            self.assertEqual(self.check_refused(book, NoRow, lambda: book.put(thing)).row, 0)
        wrong = "show 1\nshow 2\nshow"
        self.assertEqual(self.check_refused(book, NoRow, lambda: book.put(wrong)).row, 2)
        self.assertEqual(self.check_refused(book, NoRow, lambda: book.put("\n".join(["a = 1"] * 7))).row, 6)
        self.assertEqual(book.put("show 1"), 2)

    def test_too_many(self):
        book = book_of(*["show 1"] * 12)
        self.assertEqual(len(book), 12)
        for place in (None, 0, 5, 12):
            self.check_refused(book, TooMany, lambda: book.put("show 2", place=place))
        book.strike(3)
        self.assertEqual(book.put("show 2", place=11), 13)
        self.check_refused(book, TooMany, lambda: book.put("show 2"))

    def test_the_refusal_that_stands_first(self):
        book = book_of(*["show 1"] * 12)
        for place in no_places(12):
            self.assertEqual(self.check_refused(book, NoRow, lambda: book.put("a = 1\nno", place=place)).row, 1)
            self.check_refused(book, NoPlace, lambda: book.put("show 1", place=place))
        self.check_refused(book, NoRow, lambda: book.put("no"))

    def test_place_is_handed_in_by_its_name(self):
        with self.assertRaises(TypeError):
            Book().put("show 1", 0)


class EditTest(BookCase):

    def test_another_text(self):
        book = book_of("a = 1\nshow a", "show a")
        book.run(1)
        self.assertIsNone(book.edit(1, "show 7"))
        self.assertEqual(book.wording(1), "show 7")
        self.assertEqual((book.outcome(1), book.last(1)), (((1,), None), 1))
        self.assertEqual((book.room(), book.setter("a"), book.order()), ({"a": 1}, 1, [1, 2]))
        self.assertEqual(book.deeds()[-1], ("edit", 1, "show 7"))
        self.assertEqual(book.run(1), ((7,), None))
        self.assertEqual((book.outcome(1), book.last(1)), (((7,), None), 2))

    def test_the_same_text(self):
        book = book_of("a = 1")
        book.run(1)
        ahead = told_of(book)
        book.edit(1, "a = 1")
        ahead["deeds"].append(("edit", 1, "a = 1"))
        self.assertEqual(told_of(book), ahead)

    def test_never_run(self):
        book = book_of("a = 1")
        book.edit(1, "a = 2")
        self.assertEqual((book.outcome(1), book.last(1)), (None, None))

    def test_refusals(self):
        book = book_of("a = 1", "a = 2", "show a")
        book.run(1)
        book.strike(2)
        for cell in no_cells(book):
            self.check_refused(book, NoCell, lambda: book.edit(cell, "show 1"))
            self.check_refused(book, NoCell, lambda: book.edit(cell, "no"))
        for thing in no_texts():
            self.assertEqual(self.check_refused(book, NoRow, lambda: book.edit(1, thing)).row, 0)
        self.assertEqual(self.check_refused(book, NoRow, lambda: book.edit(3, "show 1\n\nshow 2")).row, 1)


class MoveTest(BookCase):

    def test_each_cell_to_each_place(self):
        for many in range(1, 6):
            for cell in range(1, many + 1):
                for place in range(many):
                    book = book_of(*["show 1"] * many)
                    self.assertIsNone(book.move(cell, place))
                    wanted = [other for other in range(1, many + 1) if other != cell]
                    wanted.insert(place, cell)
                    self.assertEqual(book.order(), wanted)
                    self.assertEqual(book.deeds()[-1], ("move", cell, place))

    def test_what_stays(self):
        book = book_of("a = 1\nshow a", "a = 2", "show a")
        for cell in (1, 2, 3):
            book.run(cell)
        book.move(3, 0)
        self.assertEqual(book.order(), [3, 1, 2])
        self.assertEqual([book.outcome(cell) for cell in (1, 2, 3)], [((1,), None), ((), None), ((2,), None)])
        self.assertEqual([book.last(cell) for cell in (1, 2, 3)], [1, 2, 3])
        self.assertEqual((book.room(), book.setter("a"), book.sources(3)), ({"a": 2}, 2, (("a", 2),)))

    def test_refusals(self):
        for many in (1, 2, 12):
            book = book_of(*["show 1"] * many)
            for place in no_places(many - 1) + [None]:
                self.check_refused(book, NoPlace, lambda: book.move(1, place))
                self.check_refused(book, NoCell, lambda: book.move(many + 1, place))
            for cell in no_cells(book):
                self.check_refused(book, NoCell, lambda: book.move(cell, 0))
        self.check_refused(Book(), NoCell, lambda: Book().move(1, 0))


class StrikeTest(BookCase):

    def test_what_goes_and_what_stays(self):
        book = book_of("a = 1", "show a", "show 3")
        book.run(1)
        book.run(2)
        self.assertIsNone(book.strike(1))
        self.assertEqual((book.order(), len(book)), ([2, 3], 2))
        self.assertEqual((book.room(), book.setter("a")), ({"a": 1}, 1))
        self.assertEqual((book.sources(1), book.sources(2)), ((), (("a", 1),)))
        self.assertEqual((book.outcome(2), book.last(2)), (((1,), None), 2))
        self.assertEqual(book.deeds()[-1], ("strike", 1))
        self.assertEqual(book.run(2), ((1,), None))
        self.assertEqual(book.sources(3), (("a", 1),))

    def test_a_struck_cell_is_no_cell(self):
        book = book_of("a = 1", "show a")
        book.run(1)
        book.strike(1)
        for ask in (book.wording, book.outcome, book.last, book.run, book.strike, lambda cell: book.edit(cell, "a = 1"),
                    lambda cell: book.move(cell, 0)):
            self.check_refused(book, NoCell, lambda: ask(1))

    def test_refusals(self):
        book = book_of("show 1", "show 2")
        for cell in no_cells(book):
            self.check_refused(book, NoCell, lambda: book.strike(cell))


class RunTest(BookCase):

    def test_outcome_room_and_count(self):
        book = book_of("a = 2\nshow a * 2", "show a\nb = a // 0", "drop a\nshow a")
        self.assertEqual([book.outcome(cell) for cell in (1, 2, 3)], [None] * 3)
        self.assertEqual([book.last(cell) for cell in (1, 2, 3)], [None] * 3)
        self.assertEqual(book.run(2), LACK_A)
        self.assertEqual((book.outcome(2), book.last(2), book.room()), (LACK_A, 1, {}))
        self.assertEqual(book.run(1), ((4,), None))
        self.assertEqual((book.outcome(1), book.last(1), book.room()), (((4,), None), 2, {"a": 2}))
        self.assertEqual(book.run(2), ((2,), ("nought",)))
        self.assertEqual((book.outcome(2), book.last(2), book.room()), (((2,), ("nought",)), 3, {"a": 2}))
        self.assertEqual(book.run(3), LACK_A)
        self.assertEqual((book.outcome(3), book.last(3), book.room()), (LACK_A, 4, {}))
        self.assertEqual((book.outcome(1), book.last(1)), (((4,), None), 2))
        self.assertEqual(book.deeds()[3:], [("run", 2), ("run", 1), ("run", 2), ("run", 3)])

    def test_again_in_the_room_that_it_left(self):
        book = book_of("a = 1", "a = a + a\nshow a")
        book.run(1)
        for many in range(1, 6):
            self.assertEqual(book.run(2), ((2 ** many,), None))
            self.assertEqual((book.last(2), book.outcome(2)), (many + 1, ((2 ** many,), None)))

    def test_a_great_number_is_no_fault_of_the_room(self):
        book = book_of("a = 999", "a = a * a\nshow a")
        for cell in (1, 2):
            book.run(cell)
        self.assertEqual(book.run(2), ((), ("great",)))
        self.assertEqual(book.room(), {"a": 999 ** 2})

    def test_setters(self):
        book = book_of("a = 1\nb = 2", "a = 3", "drop a\ndrop c", "b = 1\na = 4\nshow c\nb = 2", "if 0: a = 1")
        book.run(1)
        self.assertEqual([book.setter(name) for name in ("a", "b", "c", "abcd")], [1, 1, None, None])
        book.run(2)
        self.assertEqual([book.setter(name) for name in "abc"], [2, 1, None])
        book.run(3)
        self.assertEqual([book.setter(name) for name in "abc"], [3, 1, 3])
        self.assertEqual(book.room(), {"b": 2})
        self.assertEqual(book.run(4), ((), ("lack", "c")))
        self.assertEqual([book.setter(name) for name in "abc"], [4, 4, 3])
        self.assertEqual(book.room(), {"a": 4, "b": 1})
        book.run(5)
        self.assertEqual([book.setter(name) for name in "abc"], [4, 4, 3])
        book.run(2)
        self.assertEqual([book.setter(name) for name in "abc"], [6, 4, 3])
        book.empty()
        self.assertEqual([book.setter(name) for name in "abc"], [None] * 3)
        book.run(2)
        self.assertEqual([book.setter(name) for name in "abc"], [7, None, None])

    def test_sources(self):
        book = book_of("b = 1\na = 2", "show c\nshow 1", "show b + a + b\nc = a", "drop b", "show b")
        for cell in (1, 2, 3, 4, 5, 3):
            book.run(cell)
        wanted = [(), (("c", None),), (("b", 1), ("a", 1)), (), (("b", 4),), (("b", 4),)]
        self.assertEqual([book.sources(run) for run in range(1, 7)], wanted)
        self.assertIs(type(book.sources(3)), tuple)
        book.empty()
        for cell in (1, 3):
            book.strike(cell)
        self.assertEqual([book.sources(run) for run in range(1, 7)], wanted)
        book.run(5)
        self.assertEqual(book.sources(7), (("b", None),))

    def test_a_source_is_the_setter_ahead_of_the_run(self):
        book = book_of("a = 1", "a = a + 1")
        for cell in (1, 2, 2, 1, 2):
            book.run(cell)
        self.assertEqual([book.sources(run) for run in range(1, 6)],
                         [(), (("a", 1),), (("a", 2),), (), (("a", 4),)])
        self.assertEqual((book.setter("a"), book.last(2), book.last(1)), (5, 5, 4))

    def test_no_source_of_what_the_run_itself_set(self):
        book = book_of("a = 1\nshow a\ndrop b\nshow b")
        book.run(1)
        self.assertEqual(book.sources(1), ())

    def test_no_cell(self):
        book = book_of("a = 1", "show a")
        book.run(1)
        for cell in no_cells(book):
            for ask in (book.run, book.wording, book.outcome, book.last):
                self.check_refused(book, NoCell, lambda: ask(cell))
        for ask in (Book().run, Book().wording, Book().outcome, Book().last):
            self.check_refused(Book(), NoCell, lambda: ask(1))

    def test_no_run(self):
        for many in (0, 1, 2, 5):
            book = book_of("a = 1", "show a")
            for at in range(many):
                book.run(1 + at % 2)
            for run in no_runs(many) + [-2]:
                self.check_refused(book, NoPlace, lambda: book.sources(run))


class EmptyTest(BookCase):

    def test_what_goes_and_what_stays(self):
        book = book_of("a = 1\nshow a", "show a")
        book.run(1)
        book.run(2)
        self.assertIsNone(book.empty())
        self.assertEqual((book.room(), book.setter("a")), ({}, None))
        self.assertEqual([book.outcome(cell) for cell in (1, 2)], [((1,), None)] * 2)
        self.assertEqual([book.last(cell) for cell in (1, 2)], [1, 2])
        self.assertEqual([book.sources(run) for run in (1, 2)], [(), (("a", 1),)])
        self.assertEqual(book.deeds()[-1], ("empty",))
        self.assertEqual(book.run(2), LACK_A)
        self.assertEqual((book.last(2), book.sources(3)), (3, (("a", None),)))

    def test_of_an_empty_room(self):
        book = Book()
        book.empty()
        book.empty()
        self.assertEqual((book.room(), book.deeds()), ({}, [("empty",), ("empty",)]))


class ApartTest(BookCase):

    def test_what_was_told_is_the_askers_own(self):
        book = book_of("a = 1\nshow a", "show a")
        book.run(1)
        book.undo()
        book.redo()
        ahead = all_of(book)
        book.order().append(7)
        book.order().clear()
        book.deeds().clear()
        book.room()["a"] = 7
        book.room().clear()
        self.assertEqual(all_of(book), ahead)
        self.assertEqual(book.run(2), ((1,), None))

    def test_what_was_told_is_not_changed_later(self):
        book = book_of("a = 1", "a = 2")
        book.run(1)
        order, room, deeds = book.order(), book.room(), book.deeds()
        book.run(2)
        book.move(2, 0)
        book.strike(1)
        book.empty()
        self.assertEqual((order, room), ([1, 2], {"a": 1}))
        self.assertEqual(deeds, [("put", "a = 1", 0), ("put", "a = 2", 1), ("run", 1)])
        self.assertIsNot(book.order(), book.order())
        self.assertIsNot(book.room(), book.room())
        self.assertIsNot(book.deeds(), book.deeds())

    def test_two_books_side_by_side(self):
        one, two = drawn_book(1, 40, 6), Book()
        ahead = all_of(one)
        two.put("a = 5")
        two.run(1)
        self.assertEqual(all_of(one), ahead)
        one.empty()
        one.put("show 1")
        self.assertEqual((two.order(), two.room(), two.deeds()), ([1], {"a": 5}, [("put", "a = 5", 0), ("run", 1)]))

    def test_kinds(self):
        book = book_of("a = 1\nshow a")
        book.run(1)
        self.assertEqual([type(thing) for thing in (book.order(), book.room(), book.deeds(), book.outcome(1))],
                         [list, dict, list, tuple])
        self.assertEqual([type(thing) for thing in (book.last(1), book.setter("a"), book.wording(1), len(book))],
                         [int, int, str, int])
        self.assertTrue(all(type(deed) is tuple for deed in book.deeds()))

    def test_drawn_books_against_the_model(self):
        for seed in range(120):
            book, draw = Book(), Random(seed)
            for _ in range(30):
                do_drawn(book, draw, 12)
                model = Model(book.deeds())
                self.assertEqual(book.order(), model.order)
                self.assertEqual(book.room(), model.room)
                self.assertEqual([book.wording(cell) for cell in model.order],
                                 [model.texts[cell] for cell in model.order])
                self.assertEqual([book.outcome(cell) for cell in model.order], list(model.outcome_row()))
                self.assertEqual([book.last(cell) for cell in model.order], [model.lasts[cell] for cell in model.order])
                self.assertEqual([book.setter(name) for name in NAMES], [model.setters.get(name) for name in NAMES])
                self.assertEqual([book.sources(at + 1) for at in range(len(model.runs))],
                                 [run[3] for run in model.runs])


if __name__ == "__main__":
    unittest.main()
