"""Books: cells that are put, written anew, moved, struck and run one by one, in one room."""

from freshcells.cells import Cell
from freshcells.errors import BookError, NoCell, NoDeed, NoPlace, Nothing, TooMany
from freshcells.states import State, with_edit, with_empty, with_move, with_put, with_run, with_strike
from freshcells.sums import is_whole

MOST_CELLS = 12


class Book:
    """Cells in an order, a room, and all deeds, done and undone."""

    def __init__(self):
        # There is one state more than deeds: the first one is ahead of all. These two lists are never changed,
        # but made anew, so that a trial need only keep them.
        self.states = [State()]
        self.told = []
        self.at = 0

    def __len__(self):
        return len(self.now().numbers)

    def put(self, text, *, place=None):
        """Put a text as a new cell, at the end where no place is told; tell its number."""
        program = Cell(text)
        many = len(self)
        at = many if place is None else place
        check_place(at, many)
        # One less than may stand, as one comes to them.
        check_few(self, MOST_CELLS - 1)
        self.keep(("put", text, at), with_put(self.now(), at, program))
        return self.now().given

    def edit(self, cell, text):
        """Write a cell anew."""
        self.check_cell(cell)
        program = Cell(text)
        self.keep(("edit", cell, text), with_edit(self.now(), cell, program))

    def move(self, cell, place):
        """Move a cell to a place among the others."""
        self.check_cell(cell)
        check_place(place, len(self) - 1)
        self.keep(("move", cell, place), with_move(self.now(), cell, place))

    def strike(self, cell):
        """Strike a cell; what it has left in the room stays."""
        self.check_cell(cell)
        self.keep(("strike", cell), with_strike(self.now(), cell))

    def run(self, cell):
        """Run a cell in the room; tell its outcome."""
        self.check_cell(cell)
        self.keep(("run", cell), with_run(self.now(), cell))
        return self.outcome(cell)

    def empty(self):
        """Empty the room."""
        self.keep(("empty",), with_empty(self.now()))

    def undo(self):
        """Undo the last deed that isn't undone; tell it."""
        if self.at == 0:
            raise Nothing("undo")
        self.at -= 1
        return self.told[self.at]

    def redo(self):
        """Take up again the deed that was undone last; tell it."""
        if self.at == len(self.told):
            raise Nothing("redo")
        self.at += 1
        return self.told[self.at - 1]

    def trial(self, deed):
        """Call a def with the book, and tell what it tells; behind it the book is as ahead."""
        states = self.states
        told = self.told
        at = self.at
        try:
            return deed(self)
        finally:
            self.states = states
            self.told = told
            self.at = at

    def order(self):
        """Tell the numbers of the cells that stand, in their order."""
        return list(self.now().numbers)

    def wording(self, cell):
        """Tell a cell's text."""
        return self.program_of(cell).text

    def outcome(self, cell):
        """Tell the outcome of a cell's last run, or None ahead of its first."""
        run = self.last(cell)
        return None if run is None else self.record_of(run).result

    def last(self, cell):
        """Tell the number of a cell's last run, or None ahead of its first."""
        self.check_cell(cell)
        return self.now().lasts.get(cell)

    def room(self):
        """Tell the room: whole numbers by names."""
        return dict(self.now().standing)

    def setter(self, name):
        """Tell the run that last set or dropped a name since the room was emptied, or None."""
        return self.now().setters.get(name)

    def sources(self, run):
        """Tell the names that a run read, each with the setter that it had ahead of the run."""
        return self.record_of(run).origins

    def deeds(self):
        """Tell the deeds that aren't undone, in order."""
        return self.told[:self.at]

    def now(self):
        """Tell the state that the book is in."""
        return self.states[self.at]

    def keep(self, deed, state):
        """Keep a deed and the state behind it; what was undone is let go."""
        self.told = self.told[:self.at] + [deed]
        self.states = self.states[:self.at + 1] + [state]
        self.at += 1

    def check_cell(self, cell):
        """Refuse any thing that is the number of no cell that stands."""
        # A truth would be found among the numbers, too.
        if not is_whole(cell) or cell not in self.now().programs:
            raise NoCell("no cell that stands has this number")

    def program_of(self, cell):
        """Tell the Cell that stands by a number."""
        self.check_cell(cell)
        return self.now().programs[cell]

    def record_of(self, run):
        """Tell the record of a run by its number, any thing at all."""
        records = self.now().records
        if not is_whole(run) or not 1 <= run <= len(records):
            raise NoPlace("no run has this number")
        return records[run - 1]


def check_place(place, greatest):
    """Refuse any thing that is no place from 0 to the greatest one."""
    if not is_whole(place) or not 0 <= place <= greatest:
        raise NoPlace(f"a place is a whole number from 0 to {greatest}")


def check_few(book, most):
    """Refuse a book of more cells than are let."""
    if len(book) > most:
        raise TooMany(f"there are more than {most} cells")


def played(deeds):
    """Tell a new book in which each of a list of deeds, any thing at all, is done in turn."""
    if not isinstance(deeds, list):
        raise NoDeed(0)
    book = Book()
    for at, deed in enumerate(deeds):
        if not is_done(book, deed):
            raise NoDeed(at)
    return book


def is_done(book, deed):
    """Do a deed in a book; tell whether it is one and isn't refused."""
    try:
        return follow_deed(book, deed)
    except BookError:
        return False


def follow_deed(book, deed):
    """Do a deed, any thing at all, in a book; tell whether it has the form of one."""
    if not isinstance(deed, tuple):
        return False
    match deed:
        # A deed's place is always a number: it is `put` alone that takes None for the end.
        case ("put", text, place) if place is not None:
            book.put(text, place=place)
        case ("edit", cell, text):
            book.edit(cell, text)
        case ("move", cell, place):
            book.move(cell, place)
        case ("strike", cell):
            book.strike(cell)
        case ("run", cell):
            book.run(cell)
        case ("empty",):
            book.empty()
        case _:
            return False
    return True
