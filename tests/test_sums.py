"""Names, atoms and sums: points 4 and 5."""

import re
import unittest
from itertools import product

from freshcells.cells import Cell
from freshcells.errors import BookError, NoSum
from freshcells.sums import is_name, read_sum, sum_text, value_in
from things import no_texts

ATOM = r"(?:(?!(?:show|drop|if)(?![a-z]))[a-z]{1,4}|0|[1-9][0-9]{0,2})"
SUM = re.compile(rf"(?:- )?{ATOM}(?: (?:\*|//|\+|-) {ATOM}){{0,7}}")
BILLION = 10 ** 9


def plain(number):
    """Tell the sum's tuple of one atom."""
    return ((1, number, ()),)


class NamesTest(unittest.TestCase):

    def test_lengths(self):
        for text, wanted in (("", False), ("a", True), ("zz", True), ("abc", True), ("wxyz", True), ("abcde", False)):
            self.assertIs(is_name(text), wanted, text)

    def test_each_letter_and_no_other_sign(self):
        for code in range(32, 127):
            sign = chr(code)
            for text in (sign, "a" + sign, sign + "a", "ab" + sign + "c"):
                self.assertIs(is_name(text), sign in "abcdefghijklmnopqrstuvwxyz", text)

    def test_other_signs(self):
        for text in ("a\n", "\n", "a\t", "\u00e9", "a\u0131", "\uff41", "\u0663", "A", "Ab", "aB", "a1", "1", "a b", " a"):
            self.assertIs(is_name(text), False, text)

    def test_the_three_words(self):
        for word in ("show", "drop", "if"):
            self.assertIs(is_name(word), False, word)
            for end in range(1, len(word)):
                self.assertIs(is_name(word[:end]), True, word[:end])
            self.assertIs(is_name(word + "s"), len(word) < 4, word)
        for text in ("shoe", "chow", "hop", "rop", "ifs", "ift", "f", "fi", "aif"):
            self.assertIs(is_name(text), True, text)

    def test_things_that_are_no_texts(self):
        for thing in no_texts():
            self.assertIs(is_name(thing), False)


class ReadSumTest(unittest.TestCase):

    def refused(self, thing):
        with self.assertRaises(NoSum) as caught:
            read_sum(thing)
        self.assertIs(type(caught.exception), NoSum)
        self.assertIsInstance(caught.exception, BookError)
        self.assertIsInstance(caught.exception, ValueError)

    def test_told_tuples(self):
        for text, wanted in (
                ("a", ((1, "a", ()),)),
                ("0", ((1, 0, ()),)),
                ("- 0", ((-1, 0, ()),)),
                ("999", ((1, 999, ()),)),
                ("- abcd", ((-1, "abcd", ()),)),
                ("a * b", ((1, "a", (("*", "b"),)),)),
                ("a // 2 * c", ((1, "a", (("//", 2), ("*", "c"))),)),
                ("a + b", ((1, "a", ()), (1, "b", ()))),
                ("a - b", ((1, "a", ()), (-1, "b", ()))),
                ("- a * 3 + b // 2", ((-1, "a", (("*", 3),)), (1, "b", (("//", 2),)))),
                ("1 - 2 * 3 // 4 - 5", ((1, 1, ()), (-1, 2, (("*", 3), ("//", 4))), (-1, 5, ())))):
            told = read_sum(text)
            self.assertEqual(told, wanted)
            self.assertEqual(repr(told), repr(wanted))

    def test_one_to_eight_atoms(self):
        for mark in ("*", "//", "+", "-"):
            for many in range(1, 12):
                text = f" {mark} ".join(["a"] * many)
                for ahead in ("", "- "):
                    if many > 8:
                        self.refused(ahead + text)
                    else:
                        self.assertEqual(sum_text(read_sum(ahead + text)), ahead + text)

    def test_atoms_count_over_products(self):
        self.assertEqual(len(read_sum("a * b + c // d - e * f + g * h")), 4)
        self.refused("a * b + c // d - e * f + g * h + i")
        self.refused("a * b + c // d - e * f + g * h * i")

    def test_numbers(self):
        for number in range(1000):
            told = read_sum(str(number))
            self.assertEqual(told, plain(number))
            self.assertIs(type(told[0][1]), int)
        for text in ("00", "01", "007", "0123", "1000", "9999", "1" * 5000, "-1", "+1", "1.0", "1_0", "0x1", "\u0661"):
            self.refused(text)
            self.refused("a * " + text)

    def test_blanks(self):
        for text in ("a  + b", "a +  b", "a+ b", "a +b", "a+b", " a", "a ", " a + b", "a + b ", "-  a", "-a", " - a",
                     "a*b", "a//b", "a / / b", "a / b", "a\n", "\na", "a\n+ b", "a\t+ b", " ", "  ", "", "\n"):
            self.refused(text)

    def test_signs_put_in_left_out_or_otherwise(self):
        for text in ("+ a", "- - a", "-", "- ", "+", "*", "//", "* a", "// a", "a b", "a + + b", "a - - b", "a + - b",
                     "a * * b", "a * - b", "a ** b", "a /// b", "a +", "a *", "a + b -", "a : b", "a = b", "a % b",
                     "(a)", "( a )", "a, b", "a * b c"):
            self.refused(text)

    def test_words_and_other_texts_for_names(self):
        for word in ("show", "drop", "if", "abcde", "A", "a1", "1a", "Ab", "_"):
            for text in (word, "- " + word, "a + " + word, word + " + a", "a * " + word):
                self.refused(text)
        for word in ("sho", "dro", "i", "ifs"):
            self.assertEqual(read_sum(word), plain(word))

    def test_all_short_rows_of_words(self):
        words = ("a", "7", "-", "+", "*", "//", "", "if", "07")
        for many in range(1, 5):
            for row in product(words, repeat=many):
                text = " ".join(row)
                if SUM.fullmatch(text):
                    self.assertEqual(sum_text(read_sum(text)), text)
                else:
                    self.refused(text)

    def test_things_that_are_no_texts(self):
        for thing in no_texts():
            self.refused(thing)
        self.refused(read_sum("a + b"))

    def test_same_behind_a_refusal(self):
        text = "- a * 2 + b"
        ahead = read_sum(text)
        self.refused("a +")
        self.refused(None)
        self.assertEqual(read_sum(text), ahead)
        self.assertEqual(sum_text(ahead), text)


class SumTextTest(unittest.TestCase):

    def refused(self, thing):
        with self.assertRaises(NoSum) as caught:
            sum_text(thing)
        self.assertIs(type(caught.exception), NoSum)

    def test_text_of_each_small_tuple(self):
        atoms = ("a", "wxyz", 0, 999)
        rests = ((), (("*", "b"),), (("//", 3),), (("//", "b"), ("*", 0)))
        products = list(product((1, -1), atoms, rests))
        sums = [(one,) for one in products] + list(product(products, repeat=2))
        texts = {}
        for some in sums:
            text = sum_text(some)
            self.assertEqual(repr(read_sum(text)), repr(some))
            texts[text] = True
        self.assertEqual(len(texts), len(sums))

    def test_told_texts(self):
        self.assertEqual(sum_text(((-1, "a", (("*", 3),)), (1, "b", (("//", 2),)))), "- a * 3 + b // 2")
        self.assertEqual(sum_text(((1, 0, ()), (-1, 5, ()))), "0 - 5")

    def test_other_kinds_of_things(self):
        good = (1, "a", (("*", 2),))
        self.assertEqual(sum_text((good,)), "a * 2")
        for thing in ([good], [list(good)], (list(good),), good, ((1, "a", [("*", 2)]),), ((1, "a", (["*", 2],)),),
                      {good: 1}, {"a": good}, ((good,),), "a * 2", ("a * 2",), "abc", ("abc",)):
            self.refused(thing)
        for thing in no_texts():
            self.refused(thing)

    def test_parts_more_or_fewer(self):
        for thing in ((), ((),), ((1,),), ((1, "a"),), ((1, "a", (), ()),), ((1, "a", ((),)),), ((1, "a", (("*",),)),),
                      ((1, "a", (("*", 2, 2),)),), ((1, "a", ("*", 2)),), ((1, "a", None),), ((1, "a", "*2"),),
                      ((1, "a", ("*2",)),), ((1, "a", ()), ()), ((1, "a", ()), None)):
            self.refused(thing)

    def test_wrong_parts(self):
        wrong_atoms = [-1, 1000, 10 ** 39, "show", "drop", "if", "", "abcde", "A", "1", "a b", "a\n", b"a"] + [
            thing for thing in no_texts() if not (type(thing) is int and 0 <= thing <= 999)]
        for atom in wrong_atoms:
            self.refused(((1, atom, ()),))
            self.refused(((1, "a", (("*", atom),)),))
        for sign in [2, -2, "+", "-", "1", ""] + [thing for thing in no_texts() if thing is True or thing not in (1, -1)]:
            self.refused(((sign, "a", ()),))
            self.refused(((1, "a", ()), (sign, "a", ())))
        for mark in ["+", "-", "/", "**", " * ", "", "///"] + no_texts():
            self.refused(((1, "a", ((mark, 2),)),))

    def test_number_of_atoms(self):
        one = (1, "a", ())
        for many in range(1, 20):
            wide = (one,) * many
            deep = ((1, "a", (("*", "a"),) * (many - 1)),)
            mixed = deep + (one,)
            self.assert_as_many(wide, many)
            self.assert_as_many(deep, many)
            self.assert_as_many(mixed, many + 1)

    def assert_as_many(self, some, many):
        if many > 8:
            self.refused(some)
        else:
            self.assertEqual(read_sum(sum_text(some)), some)

    def test_a_cell_in_the_tuple(self):
        self.refused(((1, Cell("show 1"), ()),))
        self.refused(((Cell("show 1"), "a", ()),))

    def test_same_behind_a_refusal(self):
        some = ((1, "a", ()),)
        self.refused(((True, "a", ()),))
        self.assertEqual(sum_text(some), "a")
        self.refused([])
        self.assertEqual(sum_text(some), "a")


class ValueTest(unittest.TestCase):

    def check(self, text, room, value, fault=None):
        kept = dict(room)
        told = value_in(read_sum(text), room)
        self.assertEqual(told, (value, fault), text)
        self.assertIs(type(told), tuple)
        self.assertEqual(room, kept)
        self.assertEqual(value_in(read_sum(text), room), told)

    def test_values(self):
        self.check("7", {}, 7)
        self.check("- 7", {}, -7)
        self.check("a", {"a": 5, "b": 6}, 5)
        self.check("a - b * 2 + 3", {"a": 5, "b": 6}, -4)
        self.check("2 - 3 - 4", {}, -5)
        self.check("7 // 2 * 2", {}, 6)
        self.check("2 * 7 // 2", {}, 7)
        self.check("- 7 // 2", {}, -3)
        self.check("1 - 7 // 2", {}, -2)
        self.check("0 * a", {"a": 10 ** 39}, 0)

    def test_values_beside_pythons(self):
        numbers = (-7, -2, -1, 0, 1, 3, 8)
        for first, second, third in product(numbers, repeat=3):
            room = {"a": first, "b": second, "c": third}
            for text in ("a * b + c", "a - b * c", "- a * b - c", "- a + b + c", "a * b * c"):
                self.check(text, room, eval(text, {}, room))
            if second != 0 and third != 0:
                for text in ("a // b + c", "a - b // c", "a // b // c", "a * b // c", "a // b * c"):
                    self.check(text, room, eval(text, {}, room))
                # A sum takes its sign behind the quotient, where Python's minus would come ahead of it.
                self.check("- a // b", room, -(first // second))

    def test_downward(self):
        for first, second, wanted in ((-7, 2, -4), (7, -2, -4), (-7, -2, 3), (-6, 2, -3), (-1, 999, -1), (1, -999, -1)):
            self.check("a // b", {"a": first, "b": second}, wanted)
            self.check("- a // b", {"a": first, "b": second}, -wanted)

    def test_lacking_names(self):
        self.check("a", {}, None, ("lack", "a"))
        self.check("a", {"b": 1}, None, ("lack", "a"))
        self.check("a + b", {"a": 1}, None, ("lack", "b"))
        self.check("b + a", {}, None, ("lack", "b"))
        self.check("0 * a", {}, None, ("lack", "a"))
        self.check("a // b", {"a": 1}, None, ("lack", "b"))

    def test_over_nought(self):
        self.check("1 // 0", {}, None, ("nought",))
        self.check("0 // 0", {}, None, ("nought",))
        self.check("a // b", {"a": -4, "b": 0}, None, ("nought",))
        self.check("5 + 1 // 0", {}, None, ("nought",))
        self.check("0 // 5", {}, 0)

    def test_just_at_the_limit(self):
        for number in (BILLION, -BILLION, BILLION - 1, 1 - BILLION):
            self.check("a", {"a": number}, number)
            self.check("- a", {"a": number}, -number)
            self.check("a * 1 // 1 + 0", {"a": number}, number)
        self.check("a * 10", {"a": 10 ** 8}, BILLION)
        self.check("a * 10", {"a": -10 ** 8}, -BILLION)
        self.check("a + 1", {"a": BILLION - 1}, BILLION)
        self.check("a - 1", {"a": 1 - BILLION}, -BILLION)

    def test_one_beyond(self):
        great = ("great",)
        for number in (BILLION + 1, -BILLION - 1, 10 ** 39, -10 ** 39):
            self.check("a", {"a": number}, None, great)
            self.check("- a", {"a": number}, None, great)
            self.check("0 + a", {"a": number}, None, great)
            self.check("1 * a", {"a": number}, None, great)
        self.check("a + 1", {"a": BILLION}, None, great)
        self.check("a - 1", {"a": -BILLION}, None, great)
        self.check("- 1 - a", {"a": BILLION}, None, great)

    def test_beyond_on_the_way(self):
        great = ("great",)
        self.check("a * 2 // 2", {"a": BILLION}, None, great)
        self.check("a * 0", {"a": BILLION + 1}, None, great)
        self.check("a // a", {"a": BILLION + 1}, None, great)
        self.check("a + 1 - 1", {"a": BILLION}, None, great)
        self.check("1 // a", {"a": 10 ** 39}, 0)
        self.check("1 // a", {"a": -10 ** 39}, -1)
        self.check("a // b", {"a": -BILLION, "b": -1}, BILLION)
        self.check("a - 1 + 1", {"a": BILLION}, BILLION)

    def test_first_fault(self):
        great, nought = ("great",), ("nought",)
        self.check("a * b", {"a": BILLION + 1}, None, great)
        self.check("a * b", {"b": BILLION + 1}, None, ("lack", "a"))
        self.check("1 // 0 * a", {}, None, nought)
        self.check("a // 0", {}, None, ("lack", "a"))
        self.check("a // 0", {"a": BILLION + 1}, None, great)
        self.check("a * 2 // 0", {"a": BILLION}, None, great)
        self.check("a + 1 + b", {"a": BILLION}, None, great)
        self.check("a + b + 1", {"a": BILLION}, None, ("lack", "b"))
        self.check("1 // 0 + a", {}, None, nought)
        self.check("a + 1 // 0", {}, None, ("lack", "a"))


if __name__ == "__main__":
    unittest.main()
