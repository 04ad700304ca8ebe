"""Runs: points 8 and 9."""

import unittest
from itertools import product

from freshcells.cells import Cell, may_read, may_set
from freshcells.runs import run_in
from freshcells.sums import value_in

BILLION = 10 ** 9


class RunCase(unittest.TestCase):

    def check(self, text, room, shown, fault, reads, sets, behind):
        """Run a text in a room, and compare all that is told, its kinds too."""
        cell, kept = Cell(text), dict(room)
        told = run_in(cell, room)
        wanted = ((tuple(shown), fault), tuple(reads), tuple(sets), behind)
        self.assertEqual(told, wanted, text)
        self.assertEqual(repr(told[:3]), repr(wanted[:3]), text)
        self.assertIs(type(told), tuple)
        self.assertIs(type(told[3]), dict)
        self.assertIsNot(told[3], room)
        self.assertEqual(room, kept)
        told[3]["zzzz"] = 1
        self.assertEqual(room, kept)
        self.assertEqual(run_in(cell, room), wanted)


class RowsTest(RunCase):

    def test_set(self):
        self.check("a = 3", {}, [], None, [], [("a", 3)], {"a": 3})
        self.check("a = b * 2", {"a": 1, "b": 4}, [], None, [("b", 4)], [("a", 8)], {"a": 8, "b": 4})
        self.check("a = 0", {}, [], None, [], [("a", 0)], {"a": 0})

    def test_drop(self):
        self.check("drop a", {"a": 1, "b": 2}, [], None, [], [("a", None)], {"b": 2})
        self.check("drop a", {"b": 2}, [], None, [], [("a", None)], {"b": 2})
        self.check("drop a\ndrop a", {"a": 1}, [], None, [], [("a", None)], {})

    def test_show(self):
        self.check("show 7", {}, [7], None, [], [], {})
        self.check("show a\nshow - a\nshow 0", {"a": 2}, [2, -2, 0], None, [("a", 2)], [], {"a": 2})

    def test_if(self):
        for number, wanted in ((0, []), (1, [5]), (-1, [5]), (BILLION, [5])):
            self.check("if a: show 5", {"a": number}, wanted, None, [("a", number)], [], {"a": number})
        self.check("if 1: a = 2", {}, [], None, [], [("a", 2)], {"a": 2})
        self.check("if 0: a = 2", {}, [], None, [], [], {})
        self.check("if a - 1: drop a", {"a": 2}, [], None, [("a", 2)], [("a", None)], {})
        self.check("if a - 2: drop a", {"a": 2}, [], None, [("a", 2)], [], {"a": 2})

    def test_nothing_shown_and_nothing_set(self):
        self.check("if 0: show a", {"a": 1}, [], None, [], [], {"a": 1})

    def test_great_numbers_of_the_room_stay(self):
        room = {"a": 10 ** 39, "b": -10 ** 39}
        self.check("show 1", room, [1], None, [], [], dict(room))
        self.check("show 1 // a", room, [0], None, [("a", 10 ** 39)], [], dict(room))


class ReadsTest(RunCase):

    def test_in_the_order_of_the_first_reading(self):
        self.check("show c + a * b - c\nshow a", {"a": 1, "b": 2, "c": 3}, [2, 1], None,
                   [("c", 3), ("a", 1), ("b", 2)], [], {"a": 1, "b": 2, "c": 3})
        self.check("if b: a = c", {"a": 1, "b": 2, "c": 3}, [], None,
                   [("b", 2), ("c", 3)], [("a", 3)], {"a": 3, "b": 2, "c": 3})

    def test_read_ahead_of_being_set(self):
        self.check("a = a + 1\na = a * 3\nshow a", {"a": 1}, [6], None, [("a", 1)], [("a", 6)], {"a": 6})
        self.check("show a\ndrop a\na = 4\nshow a", {"a": 1}, [1, 4], None, [("a", 1)], [("a", 4)], {"a": 4})
        self.check("if a: a = 0\nif a: show 1", {"a": 5}, [], None, [("a", 5)], [("a", 0)], {"a": 0})

    def test_read_behind_being_set(self):
        self.check("a = 2\nshow a", {"a": 1}, [2], None, [], [("a", 2)], {"a": 2})
        self.check("if 1: a = 2\nshow a", {"a": 1}, [2], None, [], [("a", 2)], {"a": 2})

    def test_behind_an_if_that_is_not_gone_into(self):
        self.check("if 0: show a\nshow b", {"a": 1, "b": 2}, [2], None, [("b", 2)], [], {"a": 1, "b": 2})
        self.check("if 0: a = 9\nshow a", {"a": 1}, [1], None, [("a", 1)], [], {"a": 1})
        self.check("if 0: show a", {}, [], None, [], [], {})

    def test_dropped_and_then_read(self):
        self.check("drop a\nshow a", {"a": 1}, [], ("lack", "a"), [], [("a", None)], {})
        self.check("drop a\nshow a", {}, [], ("lack", "a"), [], [("a", None)], {})
        self.check("drop a\na = a + 1", {"a": 1}, [], ("lack", "a"), [], [("a", None)], {})

    def test_lacking(self):
        self.check("show a", {"b": 1}, [], ("lack", "a"), [("a", None)], [], {"b": 1})
        self.check("show b + a", {"b": 1}, [], ("lack", "a"), [("b", 1), ("a", None)], [], {"b": 1})
        self.check("a = a", {}, [], ("lack", "a"), [("a", None)], [], {})

    def test_nothing_is_read_behind_a_fault(self):
        room = {"a": 0, "b": BILLION, "c": 3}
        self.check("show 1 // a * b", room, [], ("nought",), [("a", 0)], [], dict(room))
        self.check("show b + 1 + c", room, [], ("great",), [("b", BILLION)], [], dict(room))
        self.check("show b * c // a", room, [], ("great",), [("b", BILLION), ("c", 3)], [], dict(room))
        self.check("show d * c", room, [], ("lack", "d"), [("d", None)], [], dict(room))
        self.check("show b * 2\nshow c", room, [], ("great",), [("b", BILLION)], [], dict(room))

    def test_a_first_atom_that_is_too_great(self):
        room = {"a": BILLION + 1, "b": 2}
        self.check("show a * b", room, [], ("great",), [("a", BILLION + 1)], [], dict(room))


class SetsTest(RunCase):

    def test_sorted(self):
        self.check("c = 1\na = 2\ndrop b\nabcd = 3", {"b": 1}, [], None, [],
                   [("a", 2), ("abcd", 3), ("b", None), ("c", 1)], {"a": 2, "abcd": 3, "c": 1})

    def test_set_twice(self):
        self.check("a = 1\na = 2", {}, [], None, [], [("a", 2)], {"a": 2})

    def test_set_and_dropped(self):
        self.check("a = 1\ndrop a", {}, [], None, [], [("a", None)], {})
        self.check("a = 1\ndrop a", {"a": 7}, [], None, [], [("a", None)], {})
        self.check("drop a\na = 1", {"a": 7}, [], None, [], [("a", 1)], {"a": 1})

    def test_set_to_what_stood(self):
        self.check("a = a", {"a": 1}, [], None, [("a", 1)], [("a", 1)], {"a": 1})


class FaultsTest(RunCase):

    def test_each_kind_at_each_row(self):
        wrongs = (("x", ("lack", "x"), [("x", None)]), ("1 // 0", ("nought",), []),
                  ("big + 1", ("great",), [("big", BILLION)]))
        for (wrong, fault, reads), kind, at in product(wrongs, range(5), range(6)):
            lines = ["show 1", "a = 1", "drop b", "show 2", "a = 2", "show a"]
            lines[at] = (f"show {wrong}", f"a = {wrong}", f"if {wrong}: show 9", f"if 1: show {wrong}",
                         f"if 1: c = {wrong}")[kind]
            done = lines[:at]
            shown = [number for line, number in (("show 1", 1), ("show 2", 2)) if line in done]
            room = {"b": 3, "big": BILLION}
            behind = dict(room)
            sets = []
            if at > 1:
                behind["a"] = 2 if at > 4 else 1
                sets.append(("a", behind["a"]))
            if at > 2:
                del behind["b"]
                sets.append(("b", None))
            self.check("\n".join(lines), room, shown, fault, reads, sets, behind)

    def test_a_faulty_sum_sets_nothing(self):
        self.check("a = 1 // 0", {"a": 5}, [], ("nought",), [], [], {"a": 5})
        self.check("if 1 // 0: drop a", {"a": 5}, [], ("nought",), [], [], {"a": 5})


class WholeTest(unittest.TestCase):
    """All cells of three rows of a small choice, beside a slow run that is told here once more."""

    LINES = ("a = b", "b = a + 1", "drop a", "show a", "show b // a", "if a: show b", "if b: a = 0", "if a: drop b")
    ROOMS = ({}, {"a": 0}, {"b": 2}, {"a": 3, "b": 4}, {"a": BILLION, "b": 1})

    def slow_run(self, cell, room):
        room, shown, reads, changed = dict(room), [], [], []
        for row in cell.rows:
            while row is not None:
                some = row[2] if row[0] == "set" else row[1]
                if row[0] == "drop":
                    changed.append(row[1])
                    room = {name: room[name] for name in room if name != row[1]}
                    break
                value, fault = value_in(some, room)
                for name in self.names_up_to_fault(some, room):
                    if name not in changed and name not in [pair[0] for pair in reads]:
                        reads.append((name, room.get(name)))
                if fault is not None:
                    return (tuple(shown), fault), reads, changed, room
                if row[0] == "set":
                    changed.append(row[1])
                    room = {**room, row[1]: value}
                if row[0] == "show":
                    shown.append(value)
                row = row[2] if row[0] == "if" and value != 0 else None
        return (tuple(shown), None), reads, changed, room

    def names_up_to_fault(self, some, room):
        """Tell the names of a sum of this choice; none of them has a fault ahead of its last name but a lack."""
        names = []
        for _, atom, pairs in some:
            for name in [atom] + [pair[1] for pair in pairs]:
                if isinstance(name, str):
                    names.append(name)
                    if name not in room:
                        return names
        return names

    def test_beside_the_slow_run(self):
        for lines in product(self.LINES, repeat=3):
            cell = Cell("\n".join(lines))
            for room in self.ROOMS:
                outcome, reads, changed, behind = self.slow_run(cell, room)
                sets = tuple([(name, behind.get(name)) for name in sorted(set(changed))])
                self.assertEqual(run_in(cell, room), (outcome, tuple(reads), sets, behind), (lines, room))
                self.assertLessEqual(set([name for name, _ in reads]), set(may_read(cell)))
                self.assertLessEqual(set(changed), set(may_set(cell)))


if __name__ == "__main__":
    unittest.main()
