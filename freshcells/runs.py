"""Runs: a cell is gone through, row by row, in a room."""

from freshcells.sums import worked_out


class Run:
    """A run of a cell, as far as it has come, in a room of its own."""

    def __init__(self, room):
        self.standing = dict(room)
        self.shown = []
        self.first_reads = {}
        self.changed = {}

    def follow(self, row):
        """Do a row; tell the fault that ends the run, or None."""
        if row[0] == "drop":
            self.change(row[1], None)
            return None
        value, fault = self.work_out(row[2] if row[0] == "set" else row[1])
        if fault is not None:
            return fault
        if row[0] == "set":
            self.change(row[1], value)
        elif row[0] == "show":
            self.shown.append(value)
        elif value != 0:
            return self.follow(row[2])
        return None

    def work_out(self, some):
        """Tell a sum's value and its fault, and keep what it read first."""
        value, fault, names = worked_out(some, self.standing)
        for name in names:
            # What the run itself has changed isn't read from the room that it came into. All else stands as
            # it did at first, so a name read again keeps its place and its value.
            if name not in self.changed:
                self.first_reads[name] = self.standing.get(name)
        return value, fault

    def change(self, name, value):
        """Make a name stand with a value, or, for None, stand no more."""
        self.changed[name] = True
        if value is None:
            self.standing.pop(name, None)
        else:
            self.standing[name] = value


def run_in(cell, room):
    """Run a cell in a room: tell its outcome, its reads, its sets and the room behind it."""
    run = Run(room)
    fault = None
    for row in cell.rows:
        fault = run.follow(row)
        if fault is not None:
            break
    outcome = (tuple(run.shown), fault)
    reads = tuple(list(run.first_reads.items()))
    sets = tuple([(name, run.standing.get(name)) for name in sorted(run.changed)])
    return outcome, reads, sets, run.standing
