"""Leavings: names in the room that gone texts have set, and runs that show such a name."""

from freshcells.books import check_few
from freshcells.cells import may_read
from freshcells.errors import NoName, NoPlace
from freshcells.runs import run_in
from freshcells.sums import is_whole

MOST_CELLS = 5
MOST_RUNS = 4


def leavings(book):
    """Tell the names of the room that a gone cell or a gone text has set, sorted, each with its setter."""
    return [(name, book.setter(name)) for name in sorted(book.room()) if is_left(book, name)]


def is_left(book, name):
    """Tell whether the setter of a name of the room is a run of a gone cell, or by a gone text."""
    record = book.record_of(book.setter(name))
    return record.number not in book.order() or record.ran.text != book.wording(record.number)


def check_name(book, name):
    """Refuse any thing that is no name of the room."""
    # The refusal is made of a text, which what was handed in may not be.
    if not isinstance(name, str):
        raise NoName("no text")
    if name not in book.room():
        raise NoName(name)


def without(room, name):
    """Tell a room in which a name doesn't stand."""
    return {other: room[other] for other in room if other != name}


def shows(book, name, row):
    """Tell whether a row of cells, of one run or more, shows a name of the room."""
    check_name(book, name)
    one = book.room()
    two = without(one, name)
    shown = False
    for number in row:
        program = book.program_of(number)
        told, _, _, one = run_in(program, one)
        other, _, _, two = run_in(program, two)
        shown = told != other
    return shown


def shown_by(book, name, *, most=4):
    """Tell a shortest row of at most so many runs that shows a name of the room, or None."""
    check_name(book, name)
    if not is_whole(most) or not 1 <= most <= MOST_RUNS:
        raise NoPlace(f"a row has 1 to {MOST_RUNS} runs")
    check_few(book, MOST_CELLS)
    return Showing(book).shortest(book.room(), without(book.room(), name), most)


class Pair:
    """Two rooms behind one row of runs: the one had a name at first that the other one hadn't."""

    def __init__(self, row, one, two, names):
        self.row = row
        self.one = one
        self.two = two
        # What stands by other names than those that cells may read makes no difference to what comes.
        self.mark = tuple([one.get(name) for name in names]), tuple([two.get(name) for name in names])
        self.apart = [name for name in names if one.get(name) != two.get(name)]

    def differs_in(self, names):
        """Tell whether one of these names stands otherwise in the one room than in the other."""
        return any([name in self.apart for name in names])

    def behind(self, program):
        """Tell whether a run has another outcome in the one room than in the other, and the rooms behind it."""
        told, reads, sets, one = run_in(program, self.one)
        if not self.differs_in([name for name, _ in reads]):
            # A run that reads the same goes the same way.
            return False, one, with_sets(self.two, sets)
        other, _, _, two = run_in(program, self.two)
        return told != other, one, two


def with_sets(room, sets):
    """Tell a room behind a run with these sets."""
    behind = dict(room)
    for name, value in sets:
        if value is None:
            behind.pop(name, None)
        else:
            behind[name] = value
    return behind


class Showing:
    """The search for a shortest row that shows a name: layers of pairs of rooms, behind one run more in each."""

    def __init__(self, book):
        programs = [(number, book.program_of(number)) for number in book.order()]
        self.cells = [(number, program, may_read(program)) for number, program in programs]
        self.names = sorted(set([name for _, _, names in self.cells for name in names]))
        self.seen = {}

    def shortest(self, one, two, most):
        """Tell a shortest row of at most so many runs whose last one has two outcomes, or None."""
        layer = []
        self.keep(Pair([], one, two, self.names), layer)
        for left in reversed(range(most)):
            found = []
            for pair in layer:
                told = self.follow(pair, left, found)
                if told is not None:
                    return told
            layer = found
        return None

    def follow(self, pair, left, found):
        """Tell the pair's row with one more run that has two outcomes, or None, with the pairs behind each in found."""
        for number, program, names in self.cells:
            # Where no run is left behind this one, it is for its outcome alone.
            if left == 0 and not pair.differs_in(names):
                continue
            shown, one, two = pair.behind(program)
            row = pair.row + [number]
            if shown:
                return row
            if left > 0:
                self.keep(Pair(row, one, two, self.names), found)
        return None

    def keep(self, pair, found):
        """Add a pair to found, but where its rooms do the same in all that comes, or were there already."""
        if pair.apart and pair.mark not in self.seen:
            self.seen[pair.mark] = True
            found.append(pair)
