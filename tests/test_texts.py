"""A book's text, written and read: point 22."""

import re
import unittest
from random import Random

from freshcells.books import Book, played
from freshcells.errors import BookError, NoDeed, Nothing, NoText
from freshcells.texts import book_text, read_book
from things import all_of, drawn_book, no_texts, told_of

DEEDS = [("put", "a = 1\nif a: show a", 0), ("put", "drop a", 0), ("run", 1), ("edit", 2, "show a + 1\n" * 5 + "show b"),
         ("run", 2), ("move", 1, 0), ("strike", 2), ("empty",), ("run", 1), ("put", "show 7", 1)]

TEXT = """put 0
 a = 1
 if a: show a
put 0
 drop a
run 1
edit 2
 show a + 1
 show a + 1
 show a + 1
 show a + 1
 show a + 1
 show b
run 2
move 1 0
strike 2
empty
run 1
put 1
 show 7"""

NUMBER = "(0|-?[1-9][0-9]{0,39})"


def deeds_by_rows(text):
    """Tell the deeds that a text's rows are, by their look alone, or None where it is no book's text."""
    deeds = []
    for row in text.split("\n") if text else []:
        told = [re.fullmatch(pattern, row) for pattern in (
            f"(put|edit) {NUMBER}", f"(move) {NUMBER} {NUMBER}", f"(strike|run) {NUMBER}", "(empty)")]
        found = [match for match in told if match]
        if row.startswith(" ") and deeds and deeds[-1][0] in ("put", "edit"):
            deeds[-1].append(row[1:])
        elif found:
            word, *numbers = found[0].groups()
            deeds.append([word] + [int(number) for number in numbers])
        else:
            return None
    told = []
    for word, *rest in deeds:
        if word == "put":
            told.append((word, "\n".join(rest[1:]), rest[0]))
        elif word == "edit":
            told.append((word, rest[0], "\n".join(rest[1:])))
        else:
            told.append((word, *rest))
    return told


class TextCase(unittest.TestCase):

    def check_no_text(self, thing):
        """See that a thing is refused."""
        with self.assertRaises(NoText) as caught:
            read_book(thing)
        self.assertIs(type(caught.exception), NoText)
        self.assertIsInstance(caught.exception, BookError)

    def check_alike(self, book, text):
        """See that a text is read into a book that is alike in all, but that nothing in it is undone."""
        other = read_book(text)
        self.assertIs(type(other), Book)
        self.assertEqual(told_of(other), told_of(book))
        self.assertEqual(book_text(other), text)
        with self.assertRaises(Nothing):
            other.redo()
        return other


class WrittenTest(TextCase):

    def test_each_kind(self):
        self.assertEqual(book_text(played(DEEDS)), TEXT)
        for many, text in ((0, ""), (1, "put 0\n a = 1\n if a: show a"), (2, "put 0\n a = 1\n if a: show a\nput 0\n drop a")):
            self.assertEqual(book_text(played(DEEDS[:many])), text)
        self.assertIs(type(book_text(Book())), str)

    def test_place_is_always_told(self):
        book = Book()
        book.put("show 1")
        book.put("show 2", place=None)
        book.put("show 3", place=0)
        self.assertEqual(book_text(book), "put 0\n show 1\nput 1\n show 2\nput 0\n show 3")

    def test_numbers_of_two_figures(self):
        deeds = [("put", "show 1", at) for at in range(12)] + [("move", 12, 10), ("run", 10), ("strike", 11)]
        self.assertEqual(book_text(played(deeds)).split("\n")[-7:],
                         ["put 10", " show 1", "put 11", " show 1", "move 12 10", "run 10", "strike 11"])

    def test_what_is_undone_is_left_out(self):
        book = played(DEEDS)
        rows = TEXT.split("\n")
        for many, last in ((1, -2), (2, -3), (3, -4), (4, -5), (5, -6), (6, -7), (7, -14)):
            book.undo()
            self.assertEqual(book_text(book), "\n".join(rows[:last]), many)
        book.redo()
        self.assertEqual(book_text(book), "\n".join(rows[:-7]))
        book.empty()
        self.assertEqual(book_text(book), "\n".join(rows[:-7] + ["empty"]))

    def test_nothing_is_changed(self):
        book = played(DEEDS)
        book.undo()
        ahead = all_of(book)
        self.assertEqual(book_text(book), book_text(book))
        self.assertEqual(all_of(book), ahead)


class ReadTest(TextCase):

    def test_each_kind(self):
        book = self.check_alike(played(DEEDS), TEXT)
        self.assertEqual(book.deeds(), DEEDS)

    def test_a_bare_book(self):
        book = self.check_alike(Book(), "")
        with self.assertRaises(Nothing):
            book.undo()

    def test_undone_down_to_the_bare_book(self):
        book = read_book(TEXT)
        self.assertEqual([book.undo() for _ in DEEDS], DEEDS[::-1])
        self.assertEqual(told_of(book), told_of(Book()))
        self.assertEqual([book.redo() for _ in DEEDS], DEEDS)
        self.assertEqual(all_of(book), all_of(played(DEEDS)))

    def test_drawn_books_are_alike_and_go_on_alike(self):
        for seed in range(150):
            book = drawn_book(seed, 50, 11)
            other = self.check_alike(book, book_text(book))
            for each in (book, other):
                each.put("a = 1\nshow a", place=0)
                each.run(each.order()[0])
                each.move(each.order()[0], len(each) - 1)
                each.empty()
            self.assertEqual(told_of(other), told_of(book))
            self.assertEqual(book_text(other), book_text(book))

    def test_two_books_of_one_text(self):
        one, two = read_book(TEXT), read_book(TEXT)
        one.empty()
        one.put("a = 7")
        self.assertEqual(book_text(two), TEXT)

    def test_three_hundred_deeds(self):
        deeds = [("put", "\n".join(["if a * b * c * d: show e - f // g * h"] * 6), at) for at in range(12)]
        deeds += [("edit", 1, "\n".join(["if a * b * c * d: show e - f // g * h"] * 6))] * 144 + [("run", 1)] * 144
        book = played(deeds)
        self.check_alike(book, book_text(book))
        self.assertGreater(len(book_text(book)), 8000)


class NoTextTest(TextCase):

    def check(self, text):
        """See that a text is refused just where it is no book's text; tell whether it is one."""
        deeds = deeds_by_rows(text)
        try:
            wanted = None if deeds is None else played(deeds)
        except NoDeed:
            wanted = None
        if wanted is None:
            self.check_no_text(text)
            return False
        self.check_alike(wanted, text)
        return True

    def test_no_texts(self):
        for thing in no_texts() + [b"empty", ["empty"], ("empty",), DEEDS, Book()]:
            self.check_no_text(thing)

    def test_rows_left_out_twice_and_exchanged(self):
        rows, right = TEXT.split("\n"), 0
        for at in range(len(rows)):
            right += self.check("\n".join(rows[:at] + rows[at + 1:]))
            right += self.check("\n".join(rows[:at] + [rows[at]] + rows[at:]))
            right += self.check("\n".join(rows[:at] + [""] + rows[at:]))
            right += self.check("\n".join(rows[at:]))
            for other in range(at):
                changed = list(rows)
                changed[at], changed[other] = rows[other], rows[at]
                right += self.check("\n".join(changed))
        self.assertGreater(right, 20)
        self.check_no_text(TEXT + "\n")
        self.check_no_text("\n" + TEXT)
        self.check_no_text(TEXT.replace("\n", "\n\n"))
        self.check_no_text(TEXT.replace("\n", "\r\n"))

    def test_signs_left_out_put_in_and_otherwise(self):
        right = 0
        for at in range(len(TEXT) + 1):
            right += self.check(TEXT[:at] + TEXT[at + 1:])
            for sign in " \n\t01a-+;P":
                right += self.check(TEXT[:at] + sign + TEXT[at:])
                right += self.check(TEXT[:at] + sign + TEXT[at + 1:])
        self.assertGreater(right, 50)

    def test_no_rows(self):
        ahead = "put 0\n show 1\nput 0\n show 2\nrun 1"
        self.assertTrue(self.check(ahead))
        for row in ("", " ", "put", "put ", "put 0", "put 0 0", "put 0\n", "put 0 show 1", "put 0\nshow 1", "put\n show 1",
                    "put 0 \n show 1", "put  0\n show 1", " put 0\n show 1", "Put 0\n show 1", "PUT 0\n show 1",
                    "put 0\n  show 1", "put 0\n show 1 ", "put 0\n show  1", "put 0\n\tshow 1", "put 0\n \n show 1",
                    "put 0\n show 1\n ", "put 0\n show 1\n\n show 2", "put 0\n no", "put a\n show 1", "put 0:\n show 1",
                    "put None\n show 1", "put -1\n show 1", "put 3\n show 1", "put -0\n show 1", "put +0\n show 1",
                    "put 00\n show 1", "put 01\n show 1", "put 1.0\n show 1", "put 0\n" + "\n".join([" show 1"] * 7),
                    "put 1_0\n show 1", "put \u0661\n show 1", "put 0\u00a0\n show 1",
                    "edit", "edit 1", "edit 1 1\n show 1", "edit 1 show 1", "edit 3\n show 1", "edit 0\n show 1",
                    "edit 01\n show 1", "edit -1\n show 1", "edit +1\n show 1", "edit 1\n no", "edit  1\n show 1",
                    "edit 1\nshow 1", "move", "move 1", "move 1 ", "move 1 2", "move 1 -1", "move 1 0 0", "move 3 0",
                    "move  1 0", "move 1  0", "move 1 0 ", "move 01 0", "move 1 00", "move 1 +0", "move 1 0\n show 1",
                    "move 1, 0", "move 1 a", "strike", "strike 3", "strike 1 1", "strike 1 ", "strike 01", "strike -1",
                    "strike 1\n show 1", "strike\n show 1", "run", "run 0", "run 3", "run 1 2", "run 1\n show 1",
                    "run  1", "run 1 ", "run +1", "run 01", "run -1", "run -0", "run one", "empty ", " empty", "empty 1",
                    "Empty", "EMPTY", "emptyempty", "empty\n show 1", "empty\n ", "undo", "redo", "trial", "cells",
                    "show 1", "order", "# empty", "empty;", "empty; empty"):
            self.assertFalse(self.check(f"{ahead}\n{row}"), row)
            self.assertFalse(self.check(f"{ahead}\n{row}\nempty"), row)
            self.assertFalse(self.check(row) and row != "", row)
        for row in ("put 0\n show 1", "put 2\n show 1", "edit 1\n show 1", "move 1 1", "strike 1", "run 1", "empty"):
            self.assertTrue(self.check(f"{ahead}\n{row}"), row)
            self.assertTrue(self.check(f"{ahead}\n{row}\nempty"), row)

    def test_great_numbers(self):
        ahead = "put 0\n show 1\n"
        for number in ("9" * 40, "1" + "0" * 39, "9" * 41, "9" * 5000, "1" + "0" * 7000):
            for sign in ("", "-", "+"):
                for row in (f"run {sign}{number}", f"put {sign}{number}\n show 1", f"move 1 {sign}{number}",
                            f"edit {sign}{number}\n show 1", f"strike {sign}{number}"):
                    self.check_no_text(ahead + row)

    def test_more_than_twelve_cells(self):
        rows = "\n".join(["put 0\n show 1"] * 12)
        self.assertTrue(self.check(rows))
        self.check_no_text(rows + "\nput 0\n show 1")
        self.assertTrue(self.check(rows + "\nstrike 5\nput 0\n show 1"))

    def test_drawn_changes(self):
        draw = Random(7)
        for seed in range(60):
            text = book_text(drawn_book(seed, 12, 3))
            for _ in range(25):
                one, two = sorted((draw.randrange(len(text) + 1), draw.randrange(len(text) + 1)))
                self.check(text[:one] + text[two:])
                self.check(text[:two] + text[one:])
                self.check(text[:one] + draw.choice("0123456789 \nab=+-*/") + text[min(two, one + 1):])


if __name__ == "__main__":
    unittest.main()
