"""Deeds undone, taken up again, tried and played: point 11."""

import unittest
from random import Random

from freshcells.books import Book, played
from freshcells.errors import BookError, NoCell, NoDeed, NoPlace, NoRow, Nothing, TooMany
from things import all_of, do_drawn, drawn_book, no_numbers, no_texts, told_of

# Of each kind of deed one, each behind the others.
DEEDS = [("put", "a = 1\nshow a", 0), ("put", "show a + 1", 0), ("run", 2), ("run", 1), ("edit", 2, "show a * 5"),
         ("run", 2), ("move", 1, 1), ("put", "drop a", 1), ("strike", 1), ("run", 3), ("empty",), ("run", 2)]


def do(book, deed):
    """Do a deed's tuple in a book."""
    word, *rest = deed
    if word == "put":
        return book.put(rest[0], place=rest[1])
    return getattr(book, word)(*rest)


def book_behind(deeds):
    """Tell a book behind deeds."""
    book = Book()
    for deed in deeds:
        do(book, deed)
    return book


class UndoTest(unittest.TestCase):

    def check_nothing(self, ask, way):
        """See that there is nothing to be undone, or taken up."""
        with self.assertRaises(Nothing) as caught:
            ask()
        self.assertIs(type(caught.exception), Nothing)
        self.assertEqual(caught.exception.way, way)

    def test_each_kind_alone(self):
        for many in range(1, len(DEEDS) + 1):
            book = book_behind(DEEDS[:many - 1])
            ahead = told_of(book)
            do(book, DEEDS[many - 1])
            behind = told_of(book)
            for _ in range(2):
                self.assertEqual(book.undo(), DEEDS[many - 1])
                self.assertEqual(told_of(book), ahead)
                self.assertEqual(book.redo(), DEEDS[many - 1])
                self.assertEqual(told_of(book), behind)
            self.check_nothing(book.redo, "redo")

    def test_down_to_the_bare_book_and_up(self):
        book = Book()
        told = [told_of(book)]
        for deed in DEEDS:
            do(book, deed)
            told.append(told_of(book))
        for at in reversed(range(len(DEEDS))):
            self.assertEqual(book.undo(), DEEDS[at])
            self.assertEqual(told_of(book), told[at])
            self.assertEqual(book.deeds(), DEEDS[:at])
        self.check_nothing(book.undo, "undo")
        self.assertEqual(told_of(book), told[0])
        for at, deed in enumerate(DEEDS):
            self.assertEqual(book.redo(), deed)
            self.assertEqual(told_of(book), told[at + 1])
        self.check_nothing(book.redo, "redo")
        self.assertEqual(told_of(book), told[-1])

    def test_nothing(self):
        book = Book()
        self.check_nothing(book.undo, "undo")
        self.check_nothing(book.redo, "redo")
        book.empty()
        self.check_nothing(book.redo, "redo")
        book.undo()
        self.check_nothing(book.undo, "undo")
        self.assertEqual(book.redo(), ("empty",))

    def test_a_deed_done_anew_lets_go_of_what_was_undone(self):
        for deed in (("put", "show 1", 0), ("edit", 1, "a = 1"), ("edit", 1, "a = 2"), ("move", 1, 0), ("run", 1),
                     ("empty",), ("strike", 1)):
            book = book_behind([("put", "a = 1", 0), ("run", 1), ("empty",), ("run", 1)])
            for _ in range(3):
                book.undo()
            do(book, deed)
            self.check_nothing(book.redo, "redo")
            self.assertEqual(book.deeds(), [("put", "a = 1", 0), deed])
            self.assertEqual([book.undo(), book.undo()], [deed, ("put", "a = 1", 0)])
            self.check_nothing(book.undo, "undo")

    def test_what_is_refused_lets_go_of_nothing(self):
        book = book_behind([("put", "a = 1", 0), ("run", 1), ("empty",)])
        book.undo()
        book.undo()
        ahead = all_of(book)
        for kind, ask in ((NoRow, lambda: book.put("no")), (NoPlace, lambda: book.put("a = 1", place=2)),
                          (NoCell, lambda: book.edit(2, "a = 1")), (NoRow, lambda: book.edit(1, "no")),
                          (NoCell, lambda: book.move(2, 0)), (NoPlace, lambda: book.move(1, 1)),
                          (NoCell, lambda: book.strike(2)), (NoCell, lambda: book.run(2)),
                          (NoPlace, lambda: book.sources(1)), (NoCell, lambda: book.wording(2))):
            with self.assertRaises(kind):
                ask()
            self.assertEqual(all_of(book), ahead)
        self.assertEqual([book.redo(), book.redo()], [("run", 1), ("empty",)])

    def test_the_numbers_that_come_next(self):
        book = book_behind([("put", "a = 1", 0), ("put", "show a", 1), ("run", 1), ("run", 2)])
        book.undo()
        with self.assertRaises(NoPlace):
            book.sources(2)
        book.run(1)
        self.assertEqual(book.last(1), 2)
        for _ in range(3):
            book.undo()
        self.assertEqual(book.put("show 7"), 2)
        self.assertEqual((book.wording(2), book.last(2)), ("show 7", None))
        book.strike(2)
        book.undo()
        self.assertEqual(book.put("show 8"), 3)

    def test_place_is_always_a_number(self):
        book = Book()
        book.put("show 1")
        book.put("show 2", place=None)
        book.put("show 3", place=1)
        self.assertEqual(repr(book.deeds()), repr([("put", "show 1", 0), ("put", "show 2", 1), ("put", "show 3", 1)]))
        self.assertEqual(book.undo(), ("put", "show 3", 1))
        self.assertEqual(book.undo(), ("put", "show 2", 1))
        self.assertEqual(book.redo(), ("put", "show 2", 1))

    def test_drawn_books(self):
        for seed in range(60):
            book, draw = Book(), Random(seed)
            for _ in range(40):
                do_drawn(book, draw, 6)
            told = {len(book.deeds()): told_of(book)}
            while book.deeds():
                book.undo()
                told[len(book.deeds())] = told_of(book)
                self.assertEqual(told_of(played(book.deeds())), told_of(book))
            for many in range(1, max(told) + 1):
                book.redo()
                self.assertEqual(told_of(book), told[many])


class Stop(Exception):
    pass


class TrialTest(unittest.TestCase):

    def books(self):
        """Tell books with nothing undone, with some, with all."""
        told = [Book(), book_behind(DEEDS), book_behind(DEEDS), book_behind(DEEDS), drawn_book(5, 60, 6)]
        told[2].undo()
        told[2].undo()
        for _ in DEEDS:
            told[3].undo()
        return told

    def test_what_the_def_tells_is_told(self):
        for thing in (None, 7, [1], "a", (1, 2)):
            self.assertEqual(Book().trial(lambda book: thing), thing)
        book = book_behind(DEEDS)
        self.assertIs(book.trial(lambda told: told), book)
        self.assertEqual(book.trial(lambda told: told.put("a = 1", place=0)), 4)
        self.assertEqual(book.trial(lambda told: (told.run(2), told.room(), told.deeds()[-1])),
                         (((), ("lack", "a")), {}, ("run", 2)))

    def check_trial(self, deed, kind=None):
        """See that a trial leaves each book as it was."""
        for book in self.books():
            ahead = all_of(book)
            if kind is None:
                book.trial(deed)
            else:
                with self.assertRaises(kind):
                    book.trial(deed)
            self.assertEqual(all_of(book), ahead)

    def test_each_kind_of_deed_within(self):
        def each(book):
            cell = book.put("a = 1\nb = a\nshow a", place=0)
            book.run(cell)
            book.edit(cell, "show b")
            book.move(cell, len(book) - 1)
            book.run(cell)
            book.empty()
            book.strike(cell)
        self.check_trial(each)
        self.check_trial(lambda book: book.empty())
        self.check_trial(lambda book: book.put("show 1"))

    def test_undo_and_redo_within(self):
        def down(book):
            while book.deeds():
                book.undo()

        def down_and_anew(book):
            down(book)
            book.put("show 7")
            book.undo()

        def down_and_up(book):
            down(book)
            while True:
                try:
                    book.redo()
                except Nothing:
                    break

        for deed in (down, down_and_anew, down_and_up):
            self.check_trial(deed)
        self.check_trial(lambda book: (down(book), book.undo()), Nothing)

    def test_a_trial_in_a_trial(self):
        def inner(book):
            book.put("a = 9", place=0)
            ahead = all_of(book)
            self.assertEqual(book.trial(lambda told: (told.empty(), told.undo(), told.undo(), told.empty(), 5)[-1]), 5)
            self.assertEqual(all_of(book), ahead)
            with self.assertRaises(NoCell):
                book.trial(lambda told: (told.empty(), told.strike(99)))
            self.assertEqual(all_of(book), ahead)
            book.undo()
        self.check_trial(inner)

    def test_where_the_def_refuses_or_raises(self):
        def stop(book):
            book.put("show 1")
            book.undo()
            book.empty()
            raise Stop()
        self.check_trial(stop, Stop)
        self.check_trial(lambda book: (book.empty(), book.put("no")), NoRow)
        self.check_trial(lambda book: (book.empty(), book.run(0)), NoCell)
        self.check_trial(lambda book: [book.put("show 1") for _ in range(13)], TooMany)

    def test_behind_a_trial_all_goes_on(self):
        book = book_behind([("put", "a = 1", 0), ("run", 1), ("empty",)])
        book.undo()
        book.trial(lambda told: (told.put("show 1"), told.run(1)))
        self.assertEqual(book.redo(), ("empty",))
        self.assertEqual(book.put("show 2"), 2)
        self.assertEqual(book.deeds(), [("put", "a = 1", 0), ("run", 1), ("empty",), ("put", "show 2", 1)])


class PlayedTest(unittest.TestCase):

    def check_no_deed(self, thing, place):
        """See that a thing is refused at a place."""
        with self.assertRaises(NoDeed) as caught:
            played(thing)
        self.assertIs(type(caught.exception), NoDeed)
        self.assertIsInstance(caught.exception, BookError)
        self.assertIs(type(caught.exception.place), int)
        self.assertEqual(caught.exception.place, place, thing)

    def check_none(self, deed):
        """See that a thing is no deed behind each number of right ones, and ahead of others."""
        for many in range(len(DEEDS)):
            self.check_no_deed(DEEDS[:many] + [deed] + DEEDS[many:], many)

    def test_each_kind(self):
        for many in range(len(DEEDS) + 1):
            deeds = DEEDS[:many]
            book = played(deeds)
            self.assertIs(type(book), Book)
            self.assertEqual(deeds, DEEDS[:many])
            self.assertEqual(book.deeds(), deeds)
            self.assertIsNot(book.deeds(), deeds)
            self.assertEqual(all_of(book), all_of(book_behind(DEEDS[:many])))

    def test_nothing_is_undone_in_it(self):
        book = book_behind(DEEDS)
        for _ in range(4):
            book.undo()
        other = played(book.deeds())
        self.assertEqual(told_of(other), told_of(book))
        with self.assertRaises(Nothing):
            other.redo()
        self.assertEqual(book.redo(), DEEDS[-4])

    def test_drawn_books(self):
        for seed in range(80):
            book = drawn_book(seed, 50, 11)
            other = played(book.deeds())
            self.assertEqual(told_of(other), told_of(book))
            for each in (book, other):
                each.put("a = 1\nshow a", place=0)
                each.run(each.order()[0])
            self.assertEqual(told_of(other), told_of(book))

    def test_the_list_is_not_kept(self):
        deeds = list(DEEDS)
        book = played(deeds)
        ahead = all_of(book)
        deeds.clear()
        self.assertEqual(all_of(book), ahead)

    def test_no_list(self):
        for thing in no_texts() + ["", "empty", tuple(DEEDS), (), {0: ("empty",)}, ("empty",)]:
            if thing != [] and thing != ["a"] and thing != [["a"]] and thing != [None, [True]]:
                self.check_no_deed(thing, 0)
        self.assertEqual(played([]).deeds(), [])

    def test_no_deeds(self):
        for thing in no_texts() + no_numbers() + [(), "empty", "run 1", ("",), ("Empty",), ("empty ",), (True,)]:
            self.check_none(thing)

    def test_other_lengths_words_and_kinds(self):
        for thing in (("empty", None), ("empty", 1), ("run",), ("run", 2, 2), ("strike",), ("strike", 2, 0),
                      ("put", "show 1"), ("put",), ("put", "show 1", 0, 0), ("edit", 2), ("edit",), ("move", 2),
                      ("edit", 2, "show 1", 0), ("move", 2, 0, 0), ("undo",), ("redo",), ("trial", 1), ("order",),
                      ("room",), ("deeds",), ("__len__",), ("last", 2), (("empty",),), (["empty"],), ({},), (b"empty",)):
            self.check_none(thing)
        for deed in DEEDS:
            self.check_none(list(deed))
            self.check_none((*deed[:-1], [deed[-1]]))
            self.check_none((*deed[:-1], (deed[-1],)))
            self.check_none((list(deed),))

    def test_numbers_that_are_none(self):
        ahead = [("put", "show 1", 0), ("put", "show 2", 1)]
        for thing in no_numbers() + [-1, 10 ** 39, -10 ** 39]:
            for deed in (("put", "show 1", thing), ("move", 1, thing), ("move", thing, 0), ("run", thing),
                         ("strike", thing), ("edit", thing, "show 1")):
                self.check_no_deed(ahead + [deed, ("empty",)], 2)

    def test_deeds_that_would_be_refused(self):
        ahead = [("put", "show 1", 0), ("put", "show 2", 1), ("strike", 2), ("empty",)]
        for deed in (("put", "show 1", 2), ("put", "no", 0), ("edit", 2, "show 1"), ("edit", 3, "show 1"),
                     ("edit", 1, "no"), ("move", 1, 1), ("move", 2, 0), ("strike", 2), ("strike", 0), ("run", 2),
                     ("run", 3)):
            self.check_no_deed(ahead + [deed], 4)
            self.check_no_deed(ahead + [deed, deed, ("empty",)], 4)
        for thing in no_texts():
            self.check_no_deed(ahead + [("put", thing, 0)], 4)
            self.check_no_deed(ahead + [("edit", 1, thing)], 4)
        twelve = [("put", "show 1", 0)] * 12
        self.assertEqual(len(played(twelve)), 12)
        self.check_no_deed(twelve + [("put", "show 1", 0)], 12)

    def test_the_first_one(self):
        self.check_no_deed([("empty",), ("run", 1), None, ("empty",)], 1)
        self.check_no_deed([None, ("run", 1)], 0)

    def test_three_hundred_deeds(self):
        deeds = [("put", "a = a + 1\nshow a", 0), ("put", "a = 0", 0), ("run", 2)] + [("run", 1)] * 297
        book = played(deeds)
        self.assertEqual((book.room(), book.last(1), book.outcome(1)), ({"a": 297}, 298, ((297,), None)))
        for at in range(300):
            self.assertEqual(book.undo(), deeds[299 - at])
        self.assertEqual(book.deeds(), [])
        for deed in deeds:
            self.assertEqual(book.redo(), deed)
        self.assertEqual(all_of(book), all_of(played(deeds)))


if __name__ == "__main__":
    unittest.main()
