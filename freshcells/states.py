"""States: all that a book has at one time, and what each deed makes of it."""

from freshcells.runs import run_in


class Record:
    """What a book keeps of a run: the number of its cell, what it ran by, what came of it, what it set or dropped."""

    def __init__(self, number, ran, told, setters):
        self.number = number
        self.ran = ran
        self.result = told[0]
        self.reads = told[1]
        self.touched = tuple([name for name, _ in told[2]])
        self.origins = tuple([(name, setters.get(name)) for name, _ in told[1]])


class State:
    """All that a book has at one time. Once a book keeps it, nothing in it is changed."""

    def __init__(self):
        self.numbers = []
        self.programs = {}
        self.lasts = {}
        self.standing = {}
        self.setters = {}
        self.records = []
        self.given = 0


def copied(state):
    """Tell a state like another one, that may be changed for itself."""
    other = State()
    other.numbers = list(state.numbers)
    other.programs = dict(state.programs)
    other.lasts = dict(state.lasts)
    other.standing = dict(state.standing)
    other.setters = dict(state.setters)
    other.records = list(state.records)
    other.given = state.given
    return other


def with_put(state, place, program):
    """Tell the state where a program is put at a place, as a cell with the next number."""
    other = copied(state)
    other.given += 1
    other.numbers.insert(place, other.given)
    other.programs[other.given] = program
    return other


def with_edit(state, cell, program):
    """Tell the state where a cell is written anew; what its last run told stays."""
    other = copied(state)
    other.programs[cell] = program
    return other


def with_move(state, cell, place):
    """Tell the state where a cell stands at a place among the others."""
    other = copied(state)
    other.numbers.remove(cell)
    other.numbers.insert(place, cell)
    return other


def with_strike(state, cell):
    """Tell the state where a cell is gone; what its runs set stays, and so do their records."""
    other = copied(state)
    other.numbers.remove(cell)
    del other.programs[cell]
    return other


def with_run(state, cell):
    """Tell the state behind a run of a cell."""
    other = copied(state)
    program = state.programs[cell]
    told = run_in(program, state.standing)
    record = Record(cell, program, told, state.setters)
    other.records.append(record)
    run = len(other.records)
    other.lasts[cell] = run
    for name in record.touched:
        other.setters[name] = run
    other.standing = told[3]
    return other


def with_empty(state):
    """Tell the state where the room is emptied, so that nothing in it has a setter."""
    other = copied(state)
    other.standing = {}
    other.setters = {}
    return other
