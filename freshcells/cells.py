"""Cells: their texts, their rows, and the names that they may read and set."""

from freshcells.errors import NoRow, NoSum
from freshcells.sums import is_name, names_in, read_sum

MOST_ROWS = 6


class Cell:
    """A short program of one to six rows."""

    def __init__(self, text):
        self.text = text
        self.rows = read_rows(text)

    def __eq__(self, other):
        return isinstance(other, Cell) and self.text == other.text

    def __len__(self):
        return len(self.rows)

    def __str__(self):
        return str(self.text)

    def __repr__(self):
        return f"Cell({len(self.rows)})"


def read_rows(text):
    """Read a cell's text, any thing at all, into the tuple of its rows."""
    if not isinstance(text, str):
        raise NoRow(0)
    rows = []
    for at, line in enumerate(text.split("\n")):
        row = read_row(line) if at < MOST_ROWS else None
        if row is None:
            raise NoRow(at)
        rows.append(row)
    return tuple(rows)


def read_row(line):
    """Tell the row that a line is, or None where it is none."""
    if not line.startswith("if "):
        return read_plain_row(line)
    test_text, _, rest = line.removeprefix("if ").partition(": ")
    test = sum_or_none(test_text)
    row = read_plain_row(rest)
    if test is None or row is None:
        return None
    return ("if", test, row)


def read_plain_row(line):
    """Tell the row that a line is, or None where it is none or begins with `if`."""
    if line.startswith("drop "):
        name = line.removeprefix("drop ")
        return ("drop", name) if is_name(name) else None
    if line.startswith("show "):
        shown = sum_or_none(line.removeprefix("show "))
        return None if shown is None else ("show", shown)
    name, _, rest = line.partition(" = ")
    some = sum_or_none(rest)
    return ("set", name, some) if is_name(name) and some is not None else None


def sum_or_none(text):
    """Tell the sum that a text is, or None where it is none."""
    try:
        return read_sum(text)
    except NoSum:
        return None


def sums_of(row):
    """Tell the sums of a row, in the order in which a run comes to them."""
    if row[0] == "if":
        return [row[1]] + sums_of(row[2])
    return [] if row[0] == "drop" else [row[-1]]


def may_read(cell):
    """Tell the names, sorted, that a cell may read from the room that it is run in."""
    found = {}
    settled = {}
    for row in cell.rows:
        for some in sums_of(row):
            for name in names_in(some):
                if name not in settled:
                    found[name] = True
        # What stands behind an `if` may be left undone: the name may be read from the room all the same.
        if row[0] == "set" or row[0] == "drop":
            settled[row[1]] = True
    return sorted(found)


def may_set(cell):
    """Tell the names, sorted, that a cell may set or drop."""
    found = {}
    for row in cell.rows:
        inner = row[2] if row[0] == "if" else row
        if inner[0] != "show":
            found[inner[1]] = True
    return sorted(found)
