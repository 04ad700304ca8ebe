"""Things for the calls that take any thing, and books to ask about."""

import random

from freshcells.books import Book
from freshcells.cells import Cell
from freshcells.errors import Nothing
from freshcells.leavings import leavings
from freshcells.tops import reason, stale, top, top_room

NAMES = ("a", "b", "c", "ab", "abcd")


def book_of(*texts):
    """Tell a book with these cells."""
    book = Book()
    for text in texts:
        book.put(text)
    return book


def run_all(book, *row):
    """Run cells in turn, empty the room at each 0; tell the book."""
    for cell in row:
        book.run(cell) if cell else book.empty()
    return book


def no_texts():
    """Tell things of each kind that are no texts, new ones each time."""
    deep = ()
    for _ in range(5000):
        deep = (deep,)
    return [None, True, False, 0, 1, -1, 10 ** 39, -10 ** 39, [], ["a"], (), ("a",), {}, {"a": 1}, [["a"]],
            [None, [True]], ({"a": ()},), Cell("show 1"), deep]


def no_numbers():
    """Tell things of each kind that are no whole numbers, new ones each time."""
    return [thing for thing in no_texts() if not isinstance(thing, int) or isinstance(thing, bool)] + [
        "", "0", "1", "2", "a", "1\n2", [1], (1,), {1: 1}]


def no_places(greatest):
    """Tell any things that are no place from 0 to the greatest one, but for None."""
    return [thing for thing in no_numbers() if thing is not None] + [
        -1, -2, -10 ** 39, greatest + 1, greatest + 2, greatest + 13, 10 ** 39]


def no_cells(book):
    """Tell any things that are the number of no cell that stands in a book."""
    return no_numbers() + [-1, 0, 10 ** 39, -10 ** 39] + [
        number for number in range(1, 40) if number not in book.order()]


def no_runs(many):
    """Tell any things that are the number of no run of so many."""
    return no_numbers() + [-1, 0, -many, many + 1, many + 2, 10 ** 39, -10 ** 39]


def ways(book):
    """Tell what may be undone and taken up, in turn, and leave the book as it was."""
    undone, taken = [], []
    while True:
        try:
            undone.append(book.undo())
        except Nothing:
            break
    while True:
        try:
            taken.append(book.redo())
        except Nothing:
            break
    for _ in range(len(taken) - len(undone)):
        book.undo()
    return undone, taken


def runs_of(book):
    """Tell how many runs a book counts, and the sources of each."""
    return [book.sources(run) for run in range(1, 1 + len([deed for deed in book.deeds() if deed[0] == "run"]))]


def told_of(book):
    """Tell all that a book tells of what it is now, not of what is undone."""
    order = book.order()
    return {
        "len": len(book), "order": order, "deeds": book.deeds(), "room": book.room(), "sources": runs_of(book),
        "wordings": [book.wording(cell) for cell in order], "outcomes": [book.outcome(cell) for cell in order],
        "lasts": [book.last(cell) for cell in order], "setters": [book.setter(name) for name in NAMES],
        "top": top(book), "top_room": top_room(book), "stale": stale(book),
        "reasons": [reason(book, cell) for cell in order], "leavings": leavings(book)}


def all_of(book):
    """Tell all that a book tells, with what may be undone and taken up."""
    return told_of(book), ways(book)


def drawn_sum(draw):
    """Draw a sum of a few names and small numbers."""
    atoms = [draw.choice(("a", "a", "b", "b", "c", "0", "1", "2", "3")) for _ in range(draw.choice((1, 1, 2, 3)))]
    text = draw.choice(("", "", "", "- "))
    return text + "".join([atom + draw.choice((" + ", " - ", " * ", " // ")) for atom in atoms[:-1]]) + atoms[-1]


def drawn_row(draw):
    """Draw a row."""
    name, number = draw.choice(("a", "b", "c")), draw.randrange(4)
    row = draw.choice((f"{name} = {drawn_sum(draw)}", f"{name} = {number}", f"{name} = {number}",
                       f"show {drawn_sum(draw)}", f"show {drawn_sum(draw)}", f"show {name}", f"drop {name}"))
    return f"if {drawn_sum(draw)}: {row}" if draw.randrange(4) == 0 else row


def drawn_text(draw):
    """Draw a cell's text of a few rows."""
    return "\n".join([drawn_row(draw) for _ in range(draw.randrange(1, 4))])


def do_drawn(book, draw, most):
    """Do a drawn deed in a book that keeps at most so many cells; undo or take up now and then."""
    order, word = book.order(), draw.choice(("put", "put", "edit", "edit", "move", "strike", "empty") + ("run",) * 8)
    if draw.randrange(12) == 0:
        try:
            book.undo() if draw.randrange(2) else book.redo()
        except Nothing:
            pass
    elif word == "put" and len(order) < most:
        book.put(drawn_text(draw), place=draw.choice([None] + list(range(len(order) + 1))))
    elif word == "empty" and draw.randrange(3) == 0:
        book.empty()
    elif word == "edit" and order:
        cell = draw.choice(order)
        book.edit(cell, draw.choice((drawn_text(draw), drawn_text(draw), book.wording(cell))))
    elif word == "move" and order:
        book.move(draw.choice(order), draw.randrange(len(order)))
    elif word == "strike" and order:
        book.strike(draw.choice(order))
    elif order:
        book.run(draw.choice(order))


def drawn_book(seed, deeds, most):
    """Tell a book behind a drawn row of deeds, the same one for the same seed."""
    draw = random.Random(seed)
    book = Book()
    for _ in range(deeds):
        do_drawn(book, draw, most)
    return book


def ready_book(seed, many, names):
    """Tell a book of so many cells that read and set some of the names, each run by the text that it has, behind
    emptying now and then; many of them read at last what doesn't stand."""
    draw, book = random.Random(seed), Book()
    often = draw.choice((2, 3, 4))
    for _ in range(many):
        rows = [f"{name} = 1" for name in draw.sample(names, draw.randrange(min(3, len(names)) + 1))]
        for _ in range(draw.randrange(3)):
            name = draw.choice(names)
            rows.insert(draw.randrange(len(rows) + 1), draw.choice((f"show {name}", f"{name} = {name}", f"drop {name}")))
        book.put("\n".join(rows + [f"show {draw.choice(names)}"]))
    for cell in draw.sample(book.order(), many):
        if draw.randrange(often) == 0:
            book.empty()
        book.run(cell)
    if draw.randrange(6) == 0:
        book.run(draw.choice(book.order()))
    if draw.randrange(6) == 0:
        book.strike(draw.choice(book.order()))
    return book
