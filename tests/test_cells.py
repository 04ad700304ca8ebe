"""Cells: points 6 and 7."""

import unittest
from itertools import product

from freshcells.cells import Cell, may_read, may_set
from freshcells.errors import BookError, NoRow
from freshcells.sums import read_sum
from things import no_texts

ROWS = (
    ("a = 1", ("set", "a", read_sum("1"))),
    ("wxyz = - a * 2 + b // 3", ("set", "wxyz", read_sum("- a * 2 + b // 3"))),
    ("drop a", ("drop", "a")),
    ("drop abcd", ("drop", "abcd")),
    ("show 7", ("show", read_sum("7"))),
    ("show - a", ("show", read_sum("- a"))),
    ("if a: b = a + 1", ("if", read_sum("a"), ("set", "b", read_sum("a + 1")))),
    ("if a - 1: drop b", ("if", read_sum("a - 1"), ("drop", "b"))),
    ("if - 0: show c * 2", ("if", read_sum("- 0"), ("show", read_sum("c * 2")))),
)

NO_ROWS = (
    "", " ", "a", "1", "a =", "a = ", " a = 1", "a = 1 ", "a  = 1", "a =  1", "a= 1", "a =1", "a=1", "= 1", " = 1",
    "1 = a", "A = 1", "a1 = 1", "abcde = 1", "a = 01", "a = 1000", "a = b = 1", "a == 1", "a = show", "a = b +",
    "show = 1", "drop = 1", "if = 1", "a, b = 1", "a = 1: 2", "a := 1",
    "drop", "drop ", "drop  a", "drop a ", " drop a", "drop 1", "drop a b", "drop a + b", "drop a, b", "drop abcde",
    "drop A", "drop if", "drop show", "drop drop", "Drop a", "dropa",
    "show", "show ", "show  a", "show a ", " show a", "show a b", "show if", "show a = 1", "show show a", "show +1",
    "show 1000", "show 007", "Show a", "show1",
    "if", "if ", "if a", "if a:", "if a: ", "if a:show a", "if a : show a", "if a:  show a", "if  a: show a",
    " if a: show a", "if a: show a ", "if : show a", "if: show a", "if a show a", "if a: a", "if a: b", "if a: 1",
    "if a: if b: show c", "if a: if", "if if a: show b", "if A: show a", "if a +: show b", "if a: b: show c",
    "if a:: show b", "if a: drop 1", "if a: show", "if a: b = ", "if 01: show a", "If a: show a",
    "a = 1; show a", "pass", "a = 1\t", "a = 1\r", "\t", "# a", "show 1 #",
)


def place_of(test, thing):
    """Tell the place at which a text, or any thing, is refused as a cell."""
    with test.assertRaises(NoRow) as caught:
        Cell(thing)
    test.assertIs(type(caught.exception), NoRow)
    test.assertIsInstance(caught.exception, BookError)
    test.assertIs(type(caught.exception.row), int)
    return caught.exception.row


class CellTest(unittest.TestCase):

    def test_each_kind_alone(self):
        for text, row in ROWS:
            self.assertEqual(repr(Cell(text).rows), repr((row,)))

    def test_one_to_six_rows(self):
        for many in range(1, 7):
            for start in range(len(ROWS)):
                picked = [ROWS[(start + at) % len(ROWS)] for at in range(many)]
                text = "\n".join([line for line, _ in picked])
                cell = Cell(text)
                self.assertEqual(cell.text, text)
                self.assertEqual(cell.rows, tuple([row for _, row in picked]))
                self.assertIs(type(cell.rows), tuple)
                self.assertEqual(len(cell), many)
                self.assertEqual(str(cell), text)
                self.assertEqual(repr(cell), f"Cell({many})")

    def test_all_pairs_of_rows(self):
        for (first, first_row), (second, second_row) in product(ROWS, repeat=2):
            self.assertEqual(Cell(f"{first}\n{second}").rows, (first_row, second_row))

    def test_equality(self):
        cell = Cell("a = 1\nshow a")
        self.assertTrue(cell == cell)
        self.assertTrue(cell == Cell("a = 1\nshow a"))
        self.assertFalse(cell != Cell("a = 1\nshow a"))
        for text in ("a = 1", "show a\na = 1", "a = 1\nshow b", "a = 1\nshow a\nshow a"):
            self.assertFalse(cell == Cell(text))
            self.assertTrue(cell != Cell(text))
        for thing in no_texts() + [cell.text, cell.rows, [cell], "Cell(2)"]:
            self.assertFalse(cell == thing)
            self.assertFalse(thing == cell)

    def test_fields_of_two_cells_have_nothing_in_common(self):
        cell, other = Cell("show 1"), Cell("drop a")
        self.assertEqual((cell.text, cell.rows), ("show 1", (("show", read_sum("1")),)))
        self.assertEqual((other.text, other.rows), ("drop a", (("drop", "a"),)))


class NoRowTest(unittest.TestCase):

    def test_a_wrong_row_at_each_place(self):
        for wrong in NO_ROWS:
            self.assertEqual(place_of(self, wrong), 0, wrong)
            for many in range(1, 7):
                for at in range(many):
                    lines = [ROWS[k][0] for k in range(many)]
                    lines[at] = wrong
                    self.assertEqual(place_of(self, "\n".join(lines)), at, lines)

    def test_the_first_of_several(self):
        self.assertEqual(place_of(self, "a = 1\nno\nno"), 1)
        self.assertEqual(place_of(self, "no\na = 1\nno"), 0)

    def test_bare_rows(self):
        self.assertEqual(place_of(self, "\n"), 0)
        self.assertEqual(place_of(self, "\nshow 1"), 0)
        self.assertEqual(place_of(self, "show 1\n"), 1)
        self.assertEqual(place_of(self, "show 1\n\nshow 2"), 1)
        self.assertEqual(place_of(self, "show 1\n" * 6), 6)
        self.assertEqual(place_of(self, "show 1\n" * 5), 5)

    def test_other_line_ends(self):
        for end in ("\r\n", "\r", "\x0b", "\x0c", "\x85", "\u2028"):
            self.assertEqual(place_of(self, f"show 1{end}show 2"), 0)

    def test_more_than_six_rows(self):
        for many in (7, 8, 100):
            lines = ["show 1"] * many
            self.assertEqual(place_of(self, "\n".join(lines)), 6)
            for at in range(many):
                wrong = lines[:at] + ["no"] + lines[at + 1:]
                self.assertEqual(place_of(self, "\n".join(wrong)), min(at, 6))

    def test_things_that_are_no_texts(self):
        for thing in no_texts():
            self.assertEqual(place_of(self, thing), 0)

    def test_same_behind_a_refusal(self):
        cell = Cell("show 1")
        place_of(self, "show 1\nno")
        self.assertEqual(Cell("show 1"), cell)
        self.assertEqual(cell.rows, (("show", read_sum("1")),))


class MayReadTest(unittest.TestCase):

    def check(self, text, wanted):
        cell = Cell(text)
        told = may_read(cell)
        self.assertEqual(told, wanted, text)
        self.assertIs(type(told), list)
        told.append("zzzz")
        self.assertEqual(may_read(cell), wanted, text)

    def test_sums_of_each_kind_of_row(self):
        self.check("show 1", [])
        self.check("show a", ["a"])
        self.check("show c * b // a - 1 + b", ["a", "b", "c"])
        self.check("a = c - b", ["b", "c"])
        self.check("drop a", [])
        self.check("if a: drop b", ["a"])
        self.check("if a: show b", ["a", "b"])
        self.check("if c: b = a", ["a", "c"])

    def test_sorted_and_each_once(self):
        self.check("show zz + b\nshow a * zz\nshow abcd - b", ["a", "abcd", "b", "zz"])

    def test_ahead_of_being_set(self):
        self.check("show a\na = 1", ["a"])
        self.check("show a\na = 1\nshow a", ["a"])

    def test_behind_being_set(self):
        self.check("a = 1\nshow a", [])
        self.check("a = b\nshow a + c", ["b", "c"])
        self.check("a = 1\nb = a\nif b: show a * b", [])

    def test_behind_being_dropped(self):
        self.check("drop a\nshow a", [])
        self.check("drop a\nshow b", ["b"])

    def test_read_in_the_row_that_sets(self):
        self.check("a = a + 1", ["a"])
        self.check("a = a + 1\nshow a", ["a"])
        self.check("if a: a = 2", ["a"])
        self.check("if 1: a = a * 2", ["a"])

    def test_set_or_dropped_behind_an_if(self):
        self.check("if b: a = 1\nshow a", ["a", "b"])
        self.check("if 1: a = 1\nshow a", ["a"])
        self.check("if 1: drop a\nshow a", ["a"])
        self.check("a = 1\nif b: drop a\nshow a", ["b"])
        self.check("if 1: a = 1\na = 2\nshow a", [])


class MaySetTest(unittest.TestCase):

    def check(self, text, wanted):
        cell = Cell(text)
        told = may_set(cell)
        self.assertEqual(told, wanted, text)
        self.assertIs(type(told), list)
        told.clear()
        self.assertEqual(may_set(cell), wanted, text)

    def test_each_kind_of_row(self):
        self.check("show a", [])
        self.check("a = b", ["a"])
        self.check("drop a", ["a"])
        self.check("if b: a = c", ["a"])
        self.check("if b: drop a", ["a"])
        self.check("if b: show a", [])
        self.check("if 0: a = 1", ["a"])

    def test_sorted_and_each_once(self):
        self.check("zz = 1\nb = 2\ndrop zz\nif b: abcd = 3\nif c: drop a\nb = 3", ["a", "abcd", "b", "zz"])
        self.check("a = 1\na = 2", ["a"])
        self.check("a = 1\ndrop a", ["a"])


if __name__ == "__main__":
    unittest.main()
