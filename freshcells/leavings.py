"""Leavings: names in the room that gone texts have set, and runs that show such a name."""

from freshcells.books import check_few
from freshcells.errors import NoName, NoPlace
from freshcells.runs import run_in
from freshcells.sums import is_whole

MOST_CELLS = 5
MOST_RUNS = 4


def leavings(book):
    """Tell the names of the room that a gone cell or a gone text has set, sorted, each with its setter."""
    return [(name, book.setter(name)) for name in sorted(book.room()) if is_left(book, name)]


def is_left(book, name):
    """Tell whether the setter of a name of the room is a run of a gone cell, or by a gone text."""
    record = book.record_of(book.setter(name))
    return record.number not in book.order() or record.ran.text != book.wording(record.number)


def check_name(book, name):
    """Refuse any thing that is no name of the room."""
    # The refusal is made of a text, which what was handed in may not be.
    if not isinstance(name, str):
        raise NoName("no text")
    if name not in book.room():
        raise NoName(name)


def without(room, name):
    """Tell a room in which a name doesn't stand."""
    return {other: room[other] for other in room if other != name}


def shows(book, name, row):
    """Tell whether a row of cells, of one run or more, shows a name of the room."""
    check_name(book, name)
    one = book.room()
    two = without(one, name)
    shown = False
    for number in row:
        program = book.program_of(number)
        told, _, _, one = run_in(program, one)
        other, _, _, two = run_in(program, two)
        shown = told != other
    return shown


def shown_by(book, name, *, most=4):
    """Tell a shortest row of at most so many runs that shows a name of the room, or None."""
    check_name(book, name)
    if not is_whole(most) or not 1 <= most <= MOST_RUNS:
        raise NoPlace(f"a row has 1 to {MOST_RUNS} runs")
    check_few(book, MOST_CELLS)
    return showing_row(book, book.room(), without(book.room(), name), most)


def showing_row(book, room, lacking, most):
    """Tell a shortest row whose last run has another outcome in one room than in the other, or None."""
    layer = [([], room, lacking)]
    for _ in range(most):
        found = []
        for row, one, two in layer:
            for number in book.order():
                told = run_in(book.program_of(number), one)
                other = run_in(book.program_of(number), two)
                if told[0] != other[0]:
                    return row + [number]
                # In rooms that are alike all that comes is alike.
                if told[3] != other[3]:
                    found.append((row + [number], told[3], other[3]))
        layer = found
    return None
