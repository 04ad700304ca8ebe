"""A desk: a book that is told rows of words, and answers with texts."""

from freshcells.books import Book
from freshcells.errors import NoSaying
from freshcells.leavings import leavings
from freshcells.orders import stands
from freshcells.plans import fewest
from freshcells.texts import number_or_none
from freshcells.tops import reason, stale

NONE = "none"
LINE_END = "; "


class Desk:
    """A book, bare at first, that is asked by rows."""

    def __init__(self):
        self.book = Book()

    def say(self, row):
        """Tell the answer to a row, any thing at all."""
        if not isinstance(row, str):
            raise NoSaying("a desk is told texts")
        words = row.split(" ")
        answer = deed_answer(self.book, words)
        if answer is None:
            answer = question_answer(self.book, words)
        if answer is None:
            raise NoSaying("this is none of a desk's rows")
        return answer


def deed_answer(book, words):
    """Do the deed that a row's words are, and tell the answer, or None where they are none."""
    match words:
        case ["put", place, *rest] if rest:
            return str(book.put(cell_text(rest), place=number_in(place)))
        case ["edit", cell, *rest] if rest:
            book.edit(number_in(cell), cell_text(rest))
        case ["move", cell, place]:
            book.move(number_in(cell), number_in(place))
        case ["strike", cell]:
            book.strike(number_in(cell))
        case ["empty"]:
            book.empty()
        case ["run", cell]:
            return outcome_words(book.run(number_in(cell)))
        case ["undo"]:
            return book.undo()[0]
        case ["redo"]:
            return book.redo()[0]
        case _:
            return None
    return "ok"


def question_answer(book, words):
    """Tell the answer to the question that a row's words are, or None where they are none."""
    match words:
        case ["cells"]:
            return cell_words(book.order())
        case ["text", cell]:
            return book.wording(number_in(cell)).replace("\n", LINE_END)
        case ["shown", cell]:
            return outcome_words(book.outcome(number_in(cell)))
        case ["room"]:
            return pair_words(sorted(book.room().items()))
        case ["stale"]:
            return cell_words(stale(book))
        case ["why", cell]:
            return reason_words(reason(book, number_in(cell)))
        case ["plan"]:
            return plan_words(fewest(book))
        case ["left"]:
            return pair_words(leavings(book))
        case ["order"]:
            word, told = stands(book)
            return cell_words(told) if word == "order" else "ring"
        case _:
            return None


def number_in(word):
    """Tell the whole number that a word of a row is."""
    number = number_or_none(word)
    if number is None:
        raise NoSaying("a word is no whole number")
    return number


def cell_text(words):
    """Tell the cell's text that the last words of a row are."""
    return " ".join(words).replace(LINE_END, "\n")


def cell_words(numbers):
    """Tell cells as a text."""
    return " ".join([str(number) for number in numbers]) if numbers else NONE


def pair_words(pairs):
    """Tell pairs of a name and a number as a text."""
    return ", ".join([f"{name} {number}" for name, number in pairs]) if pairs else NONE


def outcome_words(outcome):
    """Tell an outcome, or None, as a text."""
    if outcome is None:
        return "unrun"
    shown, fault = outcome
    words = [str(number) for number in shown]
    if fault is not None:
        words.extend(["!", *fault])
    return " ".join(words) if words else "-"


def reason_words(why):
    """Tell a reason, or None, as a text."""
    if why is None:
        return "fresh"
    words = (why[0], why[1], why[5]) if why[0] == "read" else why
    return " ".join(["-" if word is None else str(word) for word in words])


def plan_words(plan):
    """Tell a plan as a text."""
    emptied, row = plan
    if row == []:
        return "mended"
    words = cell_words(row)
    return f"empty {words}" if emptied else words
