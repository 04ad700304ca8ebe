"""A book by the plainest means: worked out from its deeds alone, each question by trying all there is."""

from itertools import permutations, product

from freshcells.cells import Cell
from freshcells.runs import run_in


class Model:
    """What is so behind a list of deeds, none of them undone."""

    def __init__(self, deeds):
        self.order, self.texts, self.outcomes, self.lasts = [], {}, {}, {}
        self.room, self.setters, self.runs, self.touched, self.put = {}, {}, [], [], 0
        for deed in deeds:
            getattr(self, "do_" + deed[0])(*deed[1:])

    def do_put(self, text, place):
        self.put += 1
        self.order[place:place] = [self.put]
        self.texts[self.put], self.outcomes[self.put], self.lasts[self.put] = text, None, None

    def do_edit(self, cell, text):
        self.texts[cell] = text

    def do_move(self, cell, place):
        others = [other for other in self.order if other != cell]
        self.order = others[:place] + [cell] + others[place:]

    def do_strike(self, cell):
        self.order = [other for other in self.order if other != cell]

    def do_run(self, cell):
        outcome, reads, sets, self.room = run_in(Cell(self.texts[cell]), self.room)
        sources = tuple((name, self.setters.get(name)) for name, _ in reads)
        self.runs.append((cell, self.texts[cell], reads, sources))
        self.touched.append([name for name, _ in sets])
        self.outcomes[cell], self.lasts[cell] = outcome, len(self.runs)
        self.setters.update({name: len(self.runs) for name, _ in sets})

    def do_empty(self):
        self.room, self.setters = {}, {}

    def outcome_row(self):
        """Tell the outcomes in the book's order."""
        return tuple(self.outcomes[cell] for cell in self.order)

    def behind(self, room, row):
        """Tell the state, a room and outcomes, behind a row of runs from a room."""
        outcomes = dict(self.outcomes)
        for cell in row:
            outcomes[cell], _, _, room = run_in(Cell(self.texts[cell]), room)
        return tuple(sorted(room.items())), tuple(outcomes[cell] for cell in self.order)

    def top(self):
        """Tell the outcomes of the top run."""
        return self.behind({}, self.order)[1]

    def room_at(self, cell):
        """Tell the room ahead of a cell in the top run."""
        return dict(self.behind({}, self.order[:self.order.index(cell)])[0])

    def reason(self, cell):
        """Tell the reason of a cell."""
        run, now = self.lasts[cell], self.room_at(cell)
        if self.top()[self.order.index(cell)] == self.outcomes[cell]:
            return None
        if run is None:
            return ("unrun",)
        _, text, reads, sources = self.runs[run - 1]
        if text != self.texts[cell]:
            return ("text", run)
        first = [at for at, (name, then) in enumerate(reads) if now.get(name) != then][0]
        name, then = reads[first]
        return ("read", name, then, now.get(name), run, sources[first][1])

    def leavings(self):
        """Tell the leavings."""
        told = []
        for name in sorted(self.room):
            cell, text, _, _ = self.runs[self.setters[name] - 1]
            if cell not in self.order or self.texts[cell] != text:
                told.append((name, self.setters[name]))
        return told

    def mending(self, emptied, many):
        """Tell all rows of so many runs that mend."""
        room, wanted = {} if emptied else self.room, self.top()
        return [list(row) for row in product(self.order, repeat=many) if self.behind(room, row)[1] == wanted]

    def fewest_many(self, may_empty):
        """Tell whether the fewest plans empty the room, and how many runs they have; None where there is none."""
        for many in range(len(self.order) + 1):
            for emptied in (False, True) if may_empty else (False,):
                if self.mending(emptied, many):
                    return emptied, many
        return None

    def layers(self, emptied, many):
        """Tell so many layers of states, each a set."""
        room, found, told = {} if emptied else self.room, set(), []
        for length in range(many):
            layer = {self.behind(room, row) for row in product(self.order, repeat=length)} - found
            told.append(layer)
            found |= layer
        return told

    def shows(self, name, row):
        """Tell whether a row shows a name."""
        lacking = {other: self.room[other] for other in self.room if other != name}
        at = self.order.index(row[-1])
        return self.behind(self.room, row)[1][at] != self.behind(lacking, row)[1][at]

    def shown_many(self, name, most):
        """Tell how many runs a shortest row has that shows a name, or None."""
        for many in range(1, most + 1):
            if any(self.shows(name, row) for row in product(self.order, repeat=many)):
                return many
        return None

    def unready(self):
        """Tell the first cell whose last run wasn't by the text that it has, or None."""
        for cell in self.order:
            run = self.lasts[cell]
            if run is None or self.runs[run - 1][1] != self.texts[cell]:
                return cell
        return None

    def touches(self, cell, name):
        """Tell whether a cell's last run set or dropped a name."""
        return name in self.touched[self.lasts[cell] - 1]

    def reads(self):
        """Tell (cell, name, source) of each read of each cell's last run."""
        return [(cell, name, source) for cell in self.order for name, source in self.runs[self.lasts[cell] - 1][3]]

    def leads(self, row):
        """Tell whether a row of all cells leads each read to its source."""
        for cell, name, source in self.reads():
            ahead = [other for other in row[:row.index(cell)] if self.touches(other, name)]
            if (self.lasts[ahead[-1]] if ahead else None) != source:
                return False
        return True

    def orders(self):
        """Tell all orders by which the book stands."""
        return [list(row) for row in permutations(self.order) if self.leads(row)]

    def owner(self, source):
        """Tell the cell that stands of which a run is the last one, or None."""
        return ([cell for cell in self.order if self.lasts[cell] == source] + [None])[0]

    def edges(self):
        """Tell all edges, sorted, each once."""
        none = {(cell, other, name) for cell, name, source in self.reads() for other in self.order
                if source is None and other != cell and self.touches(other, name)}
        return sorted(none | {(self.owner(source), cell, name) for cell, name, source in self.reads()
                              if source is not None and self.owner(source) is not None})

    def choices(self):
        """Tell all choices, sorted, each once."""
        return sorted({(other, self.owner(source), cell, name) for cell, name, source in self.reads()
                       for other in self.order if source is not None and self.owner(source) is not None
                       and other not in (cell, self.owner(source)) and self.touches(other, name)})

    def gone(self):
        """Tell the reads, sorted, whose source is no cell's last run."""
        return sorted({(cell, name) for cell, name, source in self.reads()
                       if source is not None and self.owner(source) is None})
