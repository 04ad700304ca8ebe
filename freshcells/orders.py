"""Orders: rows of all cells by which a book stands, or a tree that shows that there is none."""

from freshcells.books import check_few
from freshcells.errors import Unready

MOST_CELLS = 7


def check_ready(book):
    """Refuse a book of which a cell's last run was not by the text that it has, or that has too many cells."""
    for number in book.order():
        run = book.last(number)
        if run is None or book.record_of(run).ran.text != book.wording(number):
            raise Unready(number)
    check_few(book, MOST_CELLS)


class Links:
    """What the last runs of a ready book ask of an order: edges, choices, and the sources that none can give."""

    def __init__(self, book):
        check_ready(book)
        self.owners = {book.last(number): number for number in book.order()}
        self.changers = changers_of(book)
        self.edges = []
        self.choices = []
        self.gone = []
        for cell in book.order():
            for name, source in book.sources(book.last(cell)):
                self.add_read(cell, name, source)

    def add_read(self, cell, name, source):
        """Add what one read of a cell's last run asks."""
        others = [other for other in self.changers.get(name, []) if other != cell]
        if source is None:
            self.edges.extend([(cell, other, name) for other in others])
        elif source in self.owners:
            # A run of the cell itself is never found here: its source was there ahead of its last run.
            owner = self.owners[source]
            self.edges.append((owner, cell, name))
            self.choices.extend([(other, owner, cell, name) for other in others if other != owner])
        else:
            self.gone.append((cell, name))


def changers_of(book):
    """Tell by names the cells whose last runs set or drop them."""
    found = {}
    for number in book.order():
        for name in book.record_of(book.last(number)).touched:
            found.setdefault(name, []).append(number)
    return found


def edges_of(book):
    """Tell the edges of a ready book, sorted, each once."""
    return sorted(set(Links(book).edges))


def choices_of(book):
    """Tell the choices of a ready book, sorted, each once."""
    return sorted(set(Links(book).choices))


def gone_of(book):
    """Tell the reads of a ready book whose source is no cell's last run, sorted, as (CELL, NAME)."""
    return sorted(Links(book).gone)


def stands(book):
    """Tell an order by which a ready book stands, or a tree that shows that there is none."""
    gone = gone_of(book)
    if gone:
        cell, name = gone[0]
        return "none", ("gone", cell, name)
    ways = {}
    for edge in edges_of(book):
        ring = ring_with(ways, edge)
        if ring is not None:
            return "none", ("ring", ring)
        ways = with_edge(ways, edge)
    return settled(book.order(), choices_of(book), ways)


def settled(cells, choices, ways):
    """Tell an order that keeps the ways and one edge of each choice, or a tree that shows that there is none."""
    choice = next_choice(ways, choices)
    if choice is None:
        return "order", row_along(cells, ways)
    trees = []
    for edge in sides_of(choice):
        ring = ring_with(ways, edge)
        if ring is None:
            word, told = settled(cells, choices, with_edge(ways, edge))
            if word == "order":
                return word, told
            trees.append(told)
        else:
            trees.append(("ring", ring))
    return "none", ("either", choice, trees[0], trees[1])


def sides_of(choice):
    """Tell the two edges of a choice."""
    between, owner, reader, name = choice
    return [(between, owner, name), (reader, between, name)]


def next_choice(ways, choices):
    """Tell the choice to be looked at next, or None where the ways hold an edge of each."""
    left = [choice for choice in choices if not any([edge[:2] in ways for edge in sides_of(choice)])]
    # Where an edge closes a ring at once, there is no more than the other one to follow: that keeps trees small.
    return min(left, key=lambda choice: many_free(ways, choice), default=None)


def many_free(ways, choice):
    """Tell how many edges of a choice close no ring with the ways."""
    return len([edge for edge in sides_of(choice) if ring_with(ways, edge) is None])


def ring_with(ways, edge):
    """Tell the ring that an edge closes with the ways, or None where it closes none."""
    first, last, _ = edge
    if (last, first) not in ways:
        return None
    return [edge] + ways[(last, first)]


def with_edge(ways, edge):
    """Tell the ways with an edge that closes no ring: by pairs of cells, edges that lead from one to the other."""
    first, last, _ = edge
    ahead = [(first, [])] + [(one, way) for (one, other), way in ways.items() if other == first]
    behind = [(last, [])] + [(other, way) for (one, other), way in ways.items() if one == last]
    found = {pair: ways[pair] for pair in ways}
    for one, there in ahead:
        for other, on in behind:
            if (one, other) not in found:
                found[(one, other)] = there + [edge] + on
    return found


def row_along(cells, ways):
    """Tell the cells in an order that keeps the ways."""
    ranks = []
    for at, cell in enumerate(cells):
        # What comes ahead of a cell comes ahead of all behind it, too: those have more ahead of them.
        ranks.append((len([other for other in cells if (other, cell) in ways]), at, cell))
    return [cell for _, _, cell in sorted(ranks)]


def leads(book, row):
    """Tell whether a ready book stands by a row of all its cells, each once."""
    check_ready(book)
    setters = {}
    for number in row:
        run = book.last(number)
        for name, source in book.sources(run):
            if setters.get(name) != source:
                return False
        for name in book.record_of(run).touched:
            setters[name] = run
    return True
