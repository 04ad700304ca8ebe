"""The top run: all cells from the top in an empty room; which ones are fresh, and why others aren't."""

from freshcells.runs import run_in


def walk(book):
    """Tell the steps of the top run, each a number, the room ahead of it and its outcome; and the room behind."""
    room = {}
    steps = []
    for number in book.order():
        outcome, _, _, behind = run_in(book.program_of(number), room)
        steps.append((number, room, outcome))
        room = behind
    return steps, room


def top(book):
    """Tell the cells' numbers in the book's order, each with its outcome in the top run."""
    steps, _ = walk(book)
    return [(number, outcome) for number, _, outcome in steps]


def top_room(book):
    """Tell the room behind the top run."""
    _, room = walk(book)
    return room


def is_fresh(book, cell):
    """Tell whether a cell's outcome is the one that it has in the top run."""
    return (cell, book.outcome(cell)) in top(book)


def stale(book):
    """Tell the cells that aren't fresh, in the book's order."""
    return [number for number, outcome in top(book) if book.outcome(number) != outcome]


def reason(book, cell):
    """Tell why a cell isn't fresh, or None where it is."""
    run = book.last(cell)
    if is_fresh(book, cell):
        return None
    if run is None:
        return ("unrun",)
    record = book.record_of(run)
    if record.ran.text != book.wording(cell):
        return ("text", run)
    name, then, now = other_read(record, room_ahead(book, cell))
    setters = dict(record.origins)
    return ("read", name, then, now, run, setters[name])


def room_ahead(book, cell):
    """Tell the room that a cell comes into in the top run."""
    steps, _ = walk(book)
    rooms = {number: room for number, room, _ in steps}
    return rooms[cell]


def other_read(record, ahead):
    """Tell the first name that a run read otherwise than a room has it, and its values then and in the room."""
    # There is one: by the same text, with the same reads, a cell shows the same.
    others = [(name, then, ahead.get(name)) for name, then in record.reads if then != ahead.get(name)]
    return others[0]
