"""Plans: runs behind which all cells are fresh, the fewest, and the fence that shows that no fewer do."""

from freshcells.books import check_few
from freshcells.errors import NoCell
from freshcells.runs import run_in
from freshcells.tops import top

MOST_CELLS = 4


class Layers:
    """The states that runs lead to from one state: in each layer those that one run more leads to first."""

    def __init__(self, state, programs):
        self.programs = programs
        self.layers = [[state]]
        self.ways = {state: []}

    def grow(self):
        """Add the next layer."""
        found = []
        for state in self.layers[-1]:
            for at, other in enumerate(next_states(state, self.programs)):
                if other not in self.ways:
                    self.ways[other] = self.ways[state] + [at]
                    found.append(other)
        self.layers.append(found)

    def way_to(self, outcomes):
        """Tell the places of the cells whose runs lead to a state of the last layer with these outcomes, or None."""
        for state in self.layers[-1]:
            if state[1] == outcomes:
                return self.ways[state]
        return None


class Search:
    """The search for a fewest plan of a book, without emptying the room and, where it is let, with it."""

    def __init__(self, book, may_empty):
        self.cells = book.order()
        self.wanted = tuple([outcome for _, outcome in top(book)])
        programs = [book.program_of(number) for number in self.cells]
        outcomes = tuple([book.outcome(number) for number in self.cells])
        self.kept = Layers((pairs_of(book.room()), outcomes), programs)
        self.emptied = Layers(((), outcomes), programs) if may_empty else None

    def plan(self):
        """Tell a fewest plan, or None; no layer is grown beyond that of its last run."""
        for _ in self.cells:
            told = self.plan_here()
            if told is not None:
                return told
            self.kept.grow()
            if self.emptied is not None:
                self.emptied.grow()
        return self.plan_here()

    def plan_here(self):
        """Tell a plan that leads to a state of the last layers, without emptying where there is one, or None."""
        way = self.kept.way_to(self.wanted)
        if way is not None:
            return False, self.cells_at(way)
        way = None if self.emptied is None else self.emptied.way_to(self.wanted)
        return None if way is None else (True, self.cells_at(way))

    def cells_at(self, way):
        """Tell the numbers of the cells at these places."""
        return [self.cells[at] for at in way]


def pairs_of(room):
    """Tell a room as a sorted tuple of its names and values."""
    return tuple(sorted(room.items()))


def next_states(state, programs):
    """Tell the states behind one run from a state, for each of the book's cells in turn."""
    pairs, outcomes = state
    room = dict(pairs)
    told = []
    for at, program in enumerate(programs):
        outcome, _, _, behind = run_in(program, room)
        told.append((pairs_of(behind), (*outcomes[:at], outcome, *outcomes[at + 1:])))
    return told


def mends(book, emptied, row):
    """Tell whether all cells are fresh behind a plan; row may be any thing."""
    if not isinstance(row, list):
        raise NoCell("a plan has a list of cells")
    programs = [book.program_of(number) for number in row]
    outcomes = {number: book.outcome(number) for number in book.order()}
    room = {} if emptied else book.room()
    for number, program in zip(row, programs):
        outcomes[number], _, _, room = run_in(program, room)
    return all([outcomes[number] == outcome for number, outcome in top(book)])


def fewest(book, *, may_empty=True):
    """Tell a fewest plan, or None where without emptying none of at most as many runs as cells mends."""
    check_few(book, MOST_CELLS)
    return Search(book, may_empty).plan()


def fence_of(book):
    """Tell the fence of a fewest plan."""
    check_few(book, MOST_CELLS)
    search = Search(book, True)
    emptied, row = search.plan()
    many = len(row)
    # A plan that empties the room is told only where without emptying none of as many runs mends.
    kept_many = many + 1 if emptied else many
    return search.kept.layers[:kept_many], search.emptied.layers[:many]
