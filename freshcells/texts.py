"""A book's text: its deeds in rows, written and read."""

from freshcells.books import played
from freshcells.errors import NoDeed, NoText
from freshcells.sums import is_number_word

MOST_FIGURES = 40


def book_text(book):
    """Tell a book's text: its deeds, those that aren't undone, in rows."""
    rows = []
    for deed in book.deeds():
        rows.extend(rows_of(deed))
    return "\n".join(rows)


def rows_of(deed):
    """Tell the rows of a deed."""
    match deed:
        case ("put", text, place):
            return [f"put {place}"] + cell_rows(text)
        case ("edit", cell, text):
            return [f"edit {cell}"] + cell_rows(text)
        case _:
            return [" ".join([str(word) for word in deed])]


def cell_rows(text):
    """Tell the rows of a cell's text, each with a blank ahead."""
    return [f" {line}" for line in text.split("\n")]


def read_book(text):
    """Read a book's text, any thing at all, into the book played from its deeds."""
    if not isinstance(text, str):
        raise NoText("a book is read from a text")
    deeds = [read_deed(head, lines) for head, lines in parts_of(text)]
    try:
        return played(deeds)
    except NoDeed as refusal:
        raise NoText(f"deed {refusal.place} of the text can't be played") from None


def parts_of(text):
    """Split a book's text into pairs of a row and the list of the cell's rows behind it."""
    parts = []
    # A text without a sign would be split into one empty row, but it has none.
    for row in text.split("\n") if text != "" else []:
        if row.startswith(" ") and parts:
            parts[-1][1].append(row[1:])
        else:
            parts.append((row, []))
    return parts


def read_deed(head, lines):
    """Read a deed from its row and the cell's rows behind it."""
    text = "\n".join(lines)
    match head.split(" "):
        case ["put", place] if lines:
            return ("put", text, read_number(place))
        case ["edit", cell] if lines:
            return ("edit", read_number(cell), text)
        case ["move", cell, place] if not lines:
            return ("move", read_number(cell), read_number(place))
        case ["strike", cell] if not lines:
            return ("strike", read_number(cell))
        case ["run", cell] if not lines:
            return ("run", read_number(cell))
        case ["empty"] if not lines:
            return ("empty",)
        case _:
            raise NoText("a row is no deed")


def read_number(word):
    """Read a word as a whole number."""
    number = number_or_none(word)
    if number is None:
        raise NoText("a word is no whole number")
    return number


def number_or_none(word):
    """Tell the whole number that a word is, as by 10 and of at most forty figures, or None where it is none."""
    if word == "-0" or not is_number_word(word.removeprefix("-"), MOST_FIGURES):
        return None
    return int(word)
