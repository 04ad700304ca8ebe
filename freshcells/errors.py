"""The refusals of Freshcells."""


class BookError(ValueError):
    """What all refusals but NoName and Nothing stand under."""


class NoSum(BookError):
    """What was handed in is no sum."""


class NoCell(BookError):
    """No cell that stands has what was handed in as its number."""


class NoPlace(BookError):
    """What was handed in is none of the places or numbers that are let."""


class NoText(BookError):
    """What was handed in is no book's text."""


class NoSaying(BookError):
    """What was handed in is none of a desk's rows."""


class TooMany(BookError):
    """The book has more cells than are let."""


class NoRow(BookError):
    """A cell's text has a row that is none; row is its place."""

    def __init__(self, row):
        super().__init__(f"row {row} of the cell is none")
        self.row = row


class NoDeed(BookError):
    """A list of deeds has a thing that is none; place is its place."""

    def __init__(self, place):
        super().__init__(f"deed {place} of the list is none")
        self.place = place


class Unready(BookError):
    """A cell's last run was not by the text that it has; cell is its number."""

    def __init__(self, cell):
        super().__init__(f"cell {cell} was not run by the text that it has")
        self.cell = cell


class NoName(LookupError):
    """A name doesn't stand in the room; name is what was handed in."""

    def __init__(self, name):
        super().__init__(f"{name}")
        self.name = name


class Nothing(IndexError):
    """Nothing is there to be undone or taken up; way is `undo` or `redo`."""

    def __init__(self, way):
        super().__init__(f"{way}")
        self.way = way
