"""What the looker must let by: claims and papers judged by the model, kind by kind, down to the innermost."""


def same(thing, wanted):
    """Tell whether a thing is what is wanted, of the same kinds throughout."""
    if type(thing) is not type(wanted):
        return False
    if isinstance(wanted, (tuple, list)):
        return len(thing) == len(wanted) and all(same(one, other) for one, other in zip(thing, wanted))
    return thing == wanted


def is_cell(model, thing):
    """Tell whether a thing is the number of a cell that stands."""
    return type(thing) is int and thing in model.order


def is_row(model, thing):
    """Tell whether a thing is a list of cells that stand."""
    return type(thing) is list and all(is_cell(model, cell) for cell in thing)


def is_tree(model, tree, edges):
    """Tell whether a tree shows that no order keeps these edges and one of each choice."""
    if type(tree) is not tuple or not tree or type(tree[0]) is not str:
        return False
    word, *rest = tree
    if word == "gone":
        return any(same(tuple(rest), read) for read in model.gone())
    if word == "ring" and len(rest) == 1:
        return is_ring(rest[0], edges)
    if word == "either" and len(rest) == 3:
        for choice in model.choices():
            if same(rest[0], choice):
                between, owner, cell, name = choice
                return (is_tree(model, rest[1], edges + [(between, owner, name)])
                        and is_tree(model, rest[2], edges + [(cell, between, name)]))
    return False


def is_ring(ring, edges):
    """Tell whether a ring is one of these edges."""
    if type(ring) is not list or not ring:
        return False
    if not all(any(same(edge, other) for other in edges) for edge in ring):
        return False
    return all(ring[at - 1][1] == ring[at][0] for at in range(len(ring)))


def is_fence(model, paper, emptied, many):
    """Tell whether a paper is the fence of a plan of so many runs."""
    if type(paper) is not tuple or len(paper) != 2:
        return False
    for bare, layers in zip((False, True), paper):
        wanted = model.layers(bare, many + (emptied and not bare))
        if type(layers) is not list or len(layers) != len(wanted):
            return False
        for layer, states in zip(layers, wanted):
            if type(layer) is not list or len(layer) != len(states):
                return False
            if not all(any(same(state, other) for other in layer) for state in states):
                return False
    return True


def is_so(model, claim):
    """Tell whether a claim is one about a book as it is, and so."""
    if type(claim) is not tuple or not claim or type(claim[0]) is not str:
        return False
    word, *rest = claim
    kinds = (word, len(rest))
    if kinds in (("fresh", 1), ("stale", 1)):
        return is_cell(model, rest[0]) and (model.reason(rest[0]) is None) == (word == "fresh")
    if kinds in (("mends", 2), ("fewest", 2)):
        emptied, row = rest
        if type(emptied) is not bool or not is_row(model, row):
            return False
        if model.behind({} if emptied else model.room, row)[1] != model.top():
            return False
        return word == "mends" or model.fewest_many(True) == (emptied, len(row))
    if kinds == ("shown", 2):
        name, row = rest
        return (type(name) is str and name in model.room and is_row(model, row) and 1 <= len(row) <= 4
                and model.shows(name, row))
    if model.unready() is not None:
        return False
    if kinds == ("stands", 1):
        return is_row(model, rest[0]) and sorted(rest[0]) == sorted(model.order) and model.leads(rest[0])
    return kinds == ("falls", 0) and model.orders() == []


def is_right(model, claim, paper):
    """Tell whether a claim is so and the paper is as told of it."""
    if not is_so(model, claim):
        return False
    if claim[0] == "stale":
        return same(paper, model.reason(claim[1]))
    if claim[0] == "fewest":
        return is_fence(model, paper, claim[1], len(claim[2]))
    if claim[0] == "falls":
        return is_tree(model, paper, model.edges())
    return same(paper, ())
