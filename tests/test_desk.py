"""A desk: point 23."""

import unittest
from random import Random

from freshcells.books import Book, played
from freshcells.desk import Desk
from freshcells.errors import BookError, NoCell, NoPlace, NoRow, NoSaying, Nothing, TooMany, Unready
from freshcells.leavings import leavings
from freshcells.orders import stands
from freshcells.plans import fewest
from freshcells.tops import reason, stale
from things import NAMES, do_drawn, no_texts, ready_book

QUESTIONS = ("cells", "room", "stale", "plan", "left", "order")
OF_CELL = ("text", "shown", "why")


def desk_of(*rows):
    """Tell a desk that was told these rows."""
    desk = Desk()
    for row in rows:
        desk.say(row)
    return desk


def heard(desk, row):
    """Tell a desk's answer, or what it refuses."""
    try:
        return desk.say(row)
    except (BookError, Nothing) as refusal:
        return type(refusal), vars(refusal)


def all_heard(desk):
    """Tell all that a desk answers to questions."""
    told = [heard(desk, row) for row in QUESTIONS]
    for cell in range(1, 20):
        told.extend([heard(desk, f"{word} {cell}") for word in OF_CELL])
    return told


def said_of(deed):
    """Tell the row for a deed."""
    word, *rest = deed
    if word == "put":
        return f"put {rest[1]} " + rest[0].replace("\n", "; ")
    return " ".join([word] + [str(thing).replace("\n", "; ") for thing in rest])


def outcome_said(outcome):
    """Tell the answer for an outcome."""
    shown, fault = outcome
    numbers = " ".join(map(str, shown))
    fault_said = "" if fault is None else "! " + " ".join(fault)
    return (numbers + (" " if numbers and fault_said else "") + fault_said) or "-"


def cells_said(cells):
    return " ".join(map(str, cells)) or "none"


def pairs_said(pairs):
    return ", ".join([name + " " + str(number) for name, number in pairs]) or "none"


def why_said(why):
    """Tell the answer for a reason."""
    if why is None:
        return "fresh"
    if why[0] == "read":
        return f"read {why[1]} {'-' if why[5] is None else why[5]}"
    return why[0] if why == ("unrun",) else f"text {why[1]}"


def refused(ask):
    """Tell the answer that is told, or what is refused."""
    try:
        return ask()
    except (BookError, Nothing) as refusal:
        return type(refusal), vars(refusal)


def wanted_of(book):
    """Tell all that a desk with this book must answer to questions."""
    def plan():
        emptied, row = fewest(book)
        return ("empty " if emptied else "") + cells_said(row) if row else "mended"

    def order():
        word, told = stands(book)
        return cells_said(told) if word == "order" else "ring"

    told = [cells_said(book.order()), pairs_said(sorted(book.room().items())), cells_said(stale(book)), refused(plan),
            pairs_said(leavings(book)), refused(order)]
    for cell in range(1, 20):
        told.append(refused(lambda: book.wording(cell).replace("\n", "; ")))
        told.append(refused(lambda: "unrun" if book.outcome(cell) is None else outcome_said(book.outcome(cell))))
        told.append(refused(lambda: why_said(reason(book, cell))))
    return told


class DeskCase(unittest.TestCase):

    def check(self, desk, *pairs):
        """See that a desk answers each row as told."""
        for row, answer in pairs:
            told = desk.say(row)
            self.assertIs(type(told), str)
            self.assertEqual(told, answer, row)

    def check_refused(self, desk, kind, said, /, **fields):
        """See that a row is refused, and changes nothing."""
        ahead, told = all_heard(desk), heard(desk, said)
        self.assertEqual(told, (kind, fields), said)
        self.assertEqual(all_heard(desk), ahead, said)


class DeedsTest(DeskCase):

    def test_each_kind(self):
        desk = Desk()
        self.check(desk, ("put 0 a = 1; show a", "1"), ("put 0 show a", "2"), ("put 1 show 7", "3"), ("cells", "2 3 1"),
                   ("run 1", "1"), ("run 2", "1"), ("edit 1 a = 2", "ok"), ("text 1", "a = 2"), ("run 1", "-"),
                   ("move 2 2", "ok"), ("cells", "3 1 2"), ("strike 3", "ok"), ("cells", "1 2"), ("empty", "ok"),
                   ("room", "none"), ("run 2", "! lack a"), ("undo", "run"), ("undo", "empty"), ("room", "a 2"),
                   ("redo", "empty"), ("undo", "empty"), ("undo", "strike"), ("undo", "move"), ("cells", "2 3 1"),
                   ("undo", "run"), ("undo", "edit"), ("text 1", "a = 1; show a"), ("redo", "edit"), ("undo", "edit"),
                   ("undo", "run"), ("undo", "run"), ("undo", "put"), ("cells", "2 1"), ("redo", "put"),
                   ("cells", "2 3 1"), ("redo", "run"), ("put 3 show 1", "4"))
        self.check_refused(desk, Nothing, "redo", way="redo")

    def test_a_bare_desk(self):
        desk = Desk()
        self.check(desk, ("cells", "none"), ("room", "none"), ("stale", "none"), ("plan", "mended"), ("left", "none"),
                   ("order", "none"), ("empty", "ok"))
        self.check_refused(Desk(), Nothing, "undo", way="undo")
        self.check_refused(Desk(), Nothing, "redo", way="redo")

    def test_outcomes(self):
        desk = Desk()
        for text, answer in (("show 1", "1"), ("show 1; show 2 * 3; show - 4", "1 6 -4"), ("show 0", "0"),
                             ("a = 1", "-"), ("drop a", "-"), ("if 0: show 1", "-"), ("show abcd", "! lack abcd"),
                             ("show 5; show zz", "5 ! lack zz"), ("show 1 // 0", "! nought"),
                             ("show 1; show - 2; a = 3 // 0; show 4", "1 -2 ! nought"),
                             ("show 999 * 999 * 999 * 999", "! great"), ("show 1; show 999 * 999 * 999 * 999", "1 ! great"),
                             ("show 999 * 999 * 999 + 1", "997003000")):
            cell = desk.say("put 0 " + text)
            self.check(desk, (f"shown {cell}", "unrun"), (f"run {cell}", answer), (f"shown {cell}", answer),
                       (f"text {cell}", text), (f"strike {cell}", "ok"))

    def test_text_with_line_ends(self):
        desk = Desk()
        for text in ("a = 1; show a", "a = 1\nshow a", "a = 1; show a\nif a: drop a; show 3", "show 1",
                     "\n".join(["show 1"] * 6), "; ".join(["show 1"] * 6)):
            cell = desk.say("put 0 " + text)
            self.check(desk, (f"text {cell}", text.replace("\n", "; ")), ("edit 1 show 1", "ok"),
                       ("edit 1 " + text, "ok"), ("text 1", text.replace("\n", "; ")), ("undo", "edit"))
            self.assertEqual(desk.say(f"run {cell}"), desk.say(f"shown {cell}"))

    def test_text_that_is_none(self):
        desk = desk_of("put 0 show 1")
        for text, row in (("", 0), (" ", 0), (" show 1", 0), ("show 1 ", 0), ("show 1;", 0), ("show 1; ", 1), ("; ", 0),
                          ("; show 1", 0), ("show 1;show 2", 0), ("show 1;  show 2", 1), ("show 1 ; show 2", 0),
                          ("show 1; ; show 2", 1), ("show 1\n; show 2", 1), ("show 1;\nshow 2", 0), ("show 1\n", 1),
                          ("\nshow 1", 0), ("show 1; show 2; no", 2), ("no; show 1", 0), ("cells", 0), ("put 0 show 1", 0),
                          ("; ".join(["show 1"] * 7), 6), ("show 1; " * 6, 6), ("show  1", 0), ("SHOW 1", 0)):
            self.check_refused(desk, NoRow, "put 0 " + text, row=row)
            self.check_refused(desk, NoRow, "put 9 " + text, row=row)
            self.check_refused(desk, NoRow, "edit 1 " + text, row=row)
            self.check_refused(desk, NoCell, "edit 2 " + text)

    def test_numbers(self):
        desk = desk_of("put 0 show 1", "put 1 show 2")
        great = "9" * 40
        for number in ("3", "10", "-1", "-2", great, "-" + great):
            for row in ("put {} show 1", "move 1 {}"):
                self.check_refused(desk, NoPlace, row.format(number))
            for row in ("edit {} show 1", "move {} 0", "move {} 9", "strike {}", "run {}", "text {}", "shown {}",
                        "why {}"):
                self.check_refused(desk, NoCell, row.format(number))
        for number in ("", "00", "01", "-0", "-01", "+1", "1.0", "1,", "one", "a", "1_0", "- 1", "--1", "0x1", "1e1",
                       "\u0661", "\u00b2", "True", "None", "1\n", "\n1", "1;", great + "9", "-9" + great, "1" * 1900):
            for row in ("put {} show 1", "move 1 {}", "edit {} show 1", "move {} 0", "strike {}", "run {}", "text {}",
                        "shown {}", "why {}", "put {} no", "edit {} no", "move {} 9", "move 9 {}"):
                self.check_refused(desk, NoSaying, row.format(number))

    def test_drawn_deeds(self):
        for seed in range(40):
            book, draw, desk = Book(), Random(seed), Desk()
            for _ in range(40):
                ahead = book.deeds()
                do_drawn(book, draw, 5)
                deeds = book.deeds()
                if len(deeds) < len(ahead):
                    self.assertEqual(desk.say("undo"), ahead[-1][0])
                elif len(deeds) > len(ahead):
                    anew = heard(desk, "redo")
                    if desk.book.deeds() != deeds:
                        if not isinstance(anew, tuple):
                            desk.say("undo")
                        self.check_deed(desk, book, deeds[-1])
                self.assertEqual(desk.book.deeds(), deeds)
            self.assertEqual(all_heard(desk), wanted_of(book))

    def check_deed(self, desk, book, deed):
        """See that a desk answers a deed's row as told."""
        answer = desk.say(said_of(deed))
        if deed[0] == "put":
            self.assertEqual(int(answer), max(desk.book.order()))
        elif deed[0] == "run":
            self.assertEqual(answer, outcome_said(book.outcome(deed[1])))
        else:
            self.assertEqual(answer, "ok")


class QuestionsTest(DeskCase):

    def test_room(self):
        desk = desk_of("put 0 b = 2; a = - 1; abcd = 0; ab = 10", "run 1")
        self.check(desk, ("room", "a -1, ab 10, abcd 0, b 2"))
        desk = desk_of("put 0 a = 1", "run 1")
        self.check(desk, ("room", "a 1"), ("empty", "ok"), ("room", "none"))

    def test_stale_and_why(self):
        desk = desk_of("put 0 a = 1", "put 1 show a", "put 2 show b", "put 3 show 4")
        self.check(desk, ("stale", "1 2 3 4"), ("why 1", "unrun"), ("run 1", "-"), ("run 2", "1"), ("run 3", "! lack b"),
                   ("run 4", "4"), ("stale", "none"), ("why 2", "fresh"), ("edit 1 a = 2", "ok"), ("stale", "2"),
                   ("why 1", "fresh"), ("why 2", "read a 1"), ("edit 4 show 5", "ok"), ("stale", "2 4"),
                   ("why 4", "text 4"), ("put 0 b = 1", "5"), ("why 3", "read b -"), ("stale", "5 2 3 4"),
                   ("move 3 0", "ok"), ("stale", "5 2 4"), ("why 5", "unrun"))

    def test_plan(self):
        desk = desk_of("put 0 a = 1", "put 1 show a", "put 2 show 3")
        self.check(desk, ("plan", "1 2 3"), ("run 1", "-"), ("run 2", "1"), ("plan", "3"), ("run 3", "3"),
                   ("plan", "mended"), ("move 2 0", "ok"), ("plan", "empty 2"))
        self.check(desk_of("put 0 show a", "put 1 a = 1", "run 2", "run 1"), ("plan", "empty 1"))

    def test_left(self):
        desk = desk_of("put 0 b = 1; a = 2", "put 1 c = 3", "run 1", "run 2")
        self.check(desk, ("left", "none"), ("strike 1", "ok"), ("left", "a 1, b 1"), ("edit 2 c = 4", "ok"),
                   ("left", "a 1, b 1, c 2"), ("empty", "ok"), ("left", "none"))

    def test_order(self):
        desk = desk_of("put 0 show a", "put 1 a = 1", "run 2", "run 1")
        self.check(desk, ("order", "2 1"))
        self.check(desk_of("put 0 show a", "put 1 a = 1", "run 1", "run 2"), ("order", "1 2"))
        self.check(desk_of("put 0 a = 1; show b", "put 1 b = 1; show a", "run 1", "empty", "run 2"), ("order", "ring"))
        self.check(desk_of("put 0 a = 1", "put 1 show a", "run 1", "run 2", "strike 1"), ("order", "ring"))

    def test_drawn_books(self):
        found = {}
        for seed in range(150):
            book = ready_book(seed, 1 + seed % 5, ("a", "b", "c"))
            desk = desk_of(*[said_of(deed) for deed in book.deeds()])
            self.assertEqual(all_heard(desk), wanted_of(book))
            answer = desk.say("order")
            found[answer == "ring"] = found.get(answer == "ring", 0) + 1
        self.assertGreater(min(found.values()), 5)


class NoSayingTest(DeskCase):

    def setUp(self):
        self.desk = desk_of("put 0 a = 1; show a", "put 1 show a", "run 1", "run 2", "run 1", "undo")

    def test_no_texts(self):
        for thing in no_texts() + [b"cells", ["cells"], ("cells",), {"cells": 1}]:
            self.check_refused(self.desk, NoSaying, thing)

    def test_no_rows(self):
        for row in ("", " ", "\n", "cell", "cells?", "help", "quit", "show 1", "a = 1", "put", "put 0", "put0 show 1", "edit",
                    "edit 1", "move", "move 1", "move 1 0 0", "strike", "strike 1 2", "empty 1", "run", "run 1 2",
                    "run all", "undo 1", "redo 1", "undo redo", "cells 1", "text", "text 1 2", "shown", "shown 1 1",
                    "room 1", "room a", "stale 1", "why", "why 1 2", "plan 1", "left a", "order 1", "trial", "deeds",
                    "last 1", "setter a", "sources 1", "played", "outcome 1", "wording 1", "cells; room", "cells\nroom"):
            self.check_refused(self.desk, NoSaying, row)

    def test_blanks_and_great_letters(self):
        rows = ["put 0 show 1", "edit 1 show 1", "move 1 0", "strike 1", "empty", "run 1", "undo", "redo", "cells",
                "text 1", "shown 1", "room", "stale", "why 1", "plan", "left", "order"]
        for row in rows:
            self.assertIs(type(desk_of("put 0 show 1", "run 1", "run 1", "undo").say(row)), str)
            word, _, rest = row.partition(" ")
            changed = [" " + row, "\n" + row, "\t" + row, row.upper(), row.title(), word.upper() + " " + rest,
                       f"{word}  {rest}", f"{word}\t{rest}", f"{word}\n{rest}", f"{word},{rest}", f"{word}s {rest}", word + "."]
            if word not in ("put", "edit"):
                changed.extend([row + " ", row + "  ", row + "\n", row + ";", row + "; ", row + " 1", row + " -"])
            for other in changed:
                self.check_refused(self.desk, NoSaying, other)
        self.check_refused(self.desk, NoSaying, "move 1  0")
        self.check_refused(self.desk, NoSaying, "put  0 show 1")

    def test_what_the_functions_refuse(self):
        desk = desk_of("put 0 show 1")
        self.check_refused(desk, NoCell, "run 2")
        self.check_refused(desk, NoCell, "move 2 9")
        self.check_refused(desk, NoPlace, "move 1 1")
        self.check_refused(desk, NoPlace, "put 2 show 1")
        self.check_refused(desk, Unready, "order", cell=1)
        self.check_refused(desk, Nothing, "redo", way="redo")
        for _ in range(4):
            desk.say("put 0 show 1")
        self.check_refused(desk, TooMany, "plan")
        self.check(desk, ("stale", "5 4 3 2 1"), ("strike 1", "ok"), ("plan", "5 4 3 2"), ("undo", "strike"))
        for _ in range(7):
            desk.say("put 0 show 1")
        self.check_refused(desk, TooMany, "put 0 show 1")
        self.check_refused(desk, NoPlace, "put 13 show 1")
        self.check_refused(desk, NoRow, "put 13 show", row=0)
        self.check_refused(desk, Unready, "order", cell=12)
        for cell in range(1, 13):
            desk.say(f"run {cell}")
        self.check_refused(desk, TooMany, "order")

    def test_what_is_refused_lets_go_of_nothing(self):
        for row in ("run 3", "put 9 show 1", "put 0 no", "edit 1 no", "move 1 2", "say", "", "order 1"):
            self.check_refused(self.desk, heard(self.desk, row)[0], row, **heard(self.desk, row)[1])
        self.check(self.desk, ("redo", "run"), ("left", "none"), ("undo", "run"))


class ApartTest(DeskCase):

    def test_two_desks_side_by_side(self):
        one, two = desk_of("put 0 a = 1", "run 1"), Desk()
        self.check(two, ("cells", "none"), ("room", "none"), ("put 0 show a", "1"), ("run 1", "! lack a"))
        self.check(one, ("cells", "1"), ("text 1", "a = 1"), ("room", "a 1"), ("undo", "run"))
        self.check(two, ("undo", "run"), ("undo", "put"), ("cells", "none"))
        self.check(one, ("redo", "run"))
        self.check_refused(two, Nothing, "undo", way="undo")

    def test_the_same_question_has_the_same_answer(self):
        desk = desk_of("put 0 a = 1; show b", "put 1 b = 1; show a", "run 1", "empty", "run 2", "strike 1")
        ahead = all_heard(desk)
        self.assertEqual(all_heard(desk), ahead)

    def test_three_hundred_rows(self):
        desk = desk_of("put 0 a = 0", "run 1", "put 1 a = a + 1; show a")
        for at in range(1, 298):
            self.check(desk, ("run 2", str(at)))
        self.assertEqual(len(desk.book.deeds()), 300)
        self.assertEqual(played(desk.book.deeds()).room(), {"a": 297})

    def test_names_are_those_of_the_room(self):
        desk = Desk()
        for name in NAMES:
            cell = desk.say(f"put 0 {name} = 1")
            desk.say(f"run {cell}")
        self.check(desk, ("room", ", ".join([f"{name} 1" for name in sorted(NAMES)])))


if __name__ == "__main__":
    unittest.main()
