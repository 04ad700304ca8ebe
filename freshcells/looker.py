"""The looker: a claim on a book is let by where it is so and its paper shows it."""

from freshcells.errors import BookError, NoName
from freshcells.leavings import MOST_RUNS, shows
from freshcells.orders import Links, leads, sides_of, stands
from freshcells.plans import fence_of, fewest, mends
from freshcells.sums import is_whole
from freshcells.tops import is_fresh, reason

# So many tuples at most stand in one another in a state; one alone in a reason, a choice or an edge.
STATE_DEPTH = 4


def holds(book, claim, paper):
    """Tell whether a claim on a book is so and a paper shows it; both may be any things."""
    try:
        return is_shown(book, claim, paper)
    except (BookError, NoName):
        return False


def paper_of(book, claim):
    """Tell the paper of a claim on a book, any thing at all, or None where it is not so."""
    try:
        return paper_by_word(book, claim)
    except (BookError, NoName):
        return None


def is_shown(book, claim, paper):
    """Tell whether a claim is so and a paper shows it; what the questions refuse isn't so."""
    word = word_of(claim)
    # A tree is walked, not looked for: there may be many, and it is no matter who wrote it.
    if word == "falls":
        return len(claim) == 1 and is_tree(Links(book), paper)
    told = paper_by_word(book, claim)
    if told is None:
        return False
    if word == "fewest":
        return is_fence(told, paper)
    return is_plain(paper, 1) and paper == told


def paper_by_word(book, claim):
    """Tell the paper of a claim, or None where it is not so; what the questions refuse isn't so."""
    # Nothing in the claim is compared with a word before it is known that a text stands there.
    if word_of(claim) is None:
        return None
    match claim:
        case ("fresh", cell):
            return () if is_fresh(book, cell) else None
        case ("stale", cell):
            return reason(book, cell)
        case ("mends", emptied, row):
            return () if is_mending(book, emptied, row) else None
        case ("fewest", emptied, row):
            return fence_of(book) if is_fewest(book, emptied, row) else None
        case ("shown", name, row):
            return () if is_showing(book, name, row) else None
        case ("stands", row):
            return () if is_order(book, row) else None
        case ("falls",):
            word, told = stands(book)
            return told if word == "none" else None
        case _:
            return None


def word_of(thing):
    """Tell the text that stands ahead in a tuple, or None where the thing is none or no text stands there."""
    if isinstance(thing, tuple) and len(thing) > 0 and isinstance(thing[0], str):
        return thing[0]
    return None


def is_mending(book, emptied, row):
    """Tell whether two things are a plan that mends a book."""
    return isinstance(emptied, bool) and mends(book, emptied, row)


def is_fewest(book, emptied, row):
    """Tell whether two things are a fewest plan of a book."""
    best_emptied, best_row = fewest(book)
    return is_mending(book, emptied, row) and emptied == best_emptied and len(row) == len(best_row)


def is_showing(book, name, row):
    """Tell whether two things are a name of the room, and a row that shows it."""
    return isinstance(row, list) and 1 <= len(row) <= MOST_RUNS and shows(book, name, row)


def is_order(book, row):
    """Tell whether a thing is an order by which a book stands."""
    if not isinstance(row, list) or not all([is_whole(cell) for cell in row]):
        return False
    return sorted(row) == sorted(book.order()) and leads(book, row)


def is_plain(thing, depth):
    """Tell whether a thing is a whole number, a text, None, or a tuple of such, so many in one another at most."""
    if isinstance(thing, tuple):
        return depth > 0 and all([is_plain(part, depth - 1) for part in thing])
    return thing is None or isinstance(thing, str) or is_whole(thing)


def is_fence(told, paper):
    """Tell whether a paper is the told fence, but for the order of the states in a layer."""
    if not isinstance(paper, tuple) or len(paper) != len(told):
        return False
    return all([are_layers(layers, thing) for layers, thing in zip(told, paper)])


def are_layers(told, thing):
    """Tell whether a thing is a list of the told layers."""
    if not isinstance(thing, list) or len(thing) != len(told):
        return False
    return all([is_layer(layer, part) for layer, part in zip(told, thing)])


def is_layer(told, thing):
    """Tell whether a thing is a list of the told states, each once, in any order."""
    if not isinstance(thing, list) or len(thing) != len(told):
        return False
    return all([is_plain(state, STATE_DEPTH) for state in thing]) and set(thing) == set(told)


def is_tree(links, tree):
    """Tell whether a tree, any thing at all, shows that no order is one by which a book with these links stands."""
    left = [(tree, links.edges)]
    while left:
        part, edges = left.pop()
        below = parts_below(links, part, edges)
        if below is None:
            return False
        left.extend(below)
    return True


def parts_below(links, part, edges):
    """Tell the parts of a tree below one part, each with the edges that are there, or None where it is wrong."""
    if word_of(part) is None:
        return None
    match part:
        case ("gone", cell, name):
            return [] if is_plain((cell, name), 1) and (cell, name) in links.gone else None
        case ("ring", ring):
            return [] if is_ring(edges, ring) else None
        case ("either", choice, tree, other):
            if not is_plain(choice, 1) or choice not in links.choices:
                return None
            first, second = sides_of(choice)
            return [(tree, edges + [first]), (other, edges + [second])]
        case _:
            return None


def is_ring(edges, ring):
    """Tell whether a ring, any thing at all, is a list of these edges, each of which leads on to the next."""
    if not isinstance(ring, list) or ring == []:
        return False
    if not all([is_plain(edge, 1) and edge in edges for edge in ring]):
        return False
    return all([one[1] == other[0] for one, other in zip(ring, ring[1:] + ring[:1])])
