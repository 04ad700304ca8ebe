"""Names, atoms and sums: read, written and worked out."""

from freshcells.errors import NoSum

LETTERS = "abcdefghijklmnopqrstuvwxyz"
FIGURES = "0123456789"
WORDS = ("show", "drop", "if")
MOST_SIGNS = 4
GREATEST_ATOM = 999
MOST_FIGURES = 3
MOST_ATOMS = 8
LIMIT = 1000000000

SIGNS = {"+": 1, "-": -1}
MARKS = {1: "+", -1: "-"}
JOINTS = ("*", "//")


def is_name(thing):
    """Tell whether the thing, any at all, is a name."""
    if not isinstance(thing, str) or not 1 <= len(thing) <= MOST_SIGNS:
        return False
    return thing not in WORDS and all([sign in LETTERS for sign in thing])


def is_number_word(word, most=MOST_FIGURES):
    """Tell whether a text is a whole number as by 10, of at most so many figures; by itself as an atom writes it."""
    # The length is looked at first, as a longer row of figures may be too long for int.
    if not 1 <= len(word) <= most or not all([sign in FIGURES for sign in word]):
        return False
    return word == "0" or word[0] != "0"


def read_atom(word):
    """Tell the atom that a text is: a name, or a whole number."""
    if is_name(word):
        return word
    if is_number_word(word):
        return int(word)
    raise NoSum(f"{word} is no atom")


def marked_words(text):
    """Split a sum's text into pairs of a mark and the word behind it."""
    words = text.split(" ")
    # With a sign ahead of the first product, too, each atom has its mark, and no other word is left.
    if words[0] != "-":
        words = ["+"] + words
    if len(words) > 2 * MOST_ATOMS or len(words) % 2 != 0:
        raise NoSum("a sum has one to eight atoms, with a mark between two of them")
    return [(words[at], words[at + 1]) for at in range(0, len(words), 2)]


def read_sum(text):
    """Read a sum's text, any thing at all, into its tuple."""
    if not isinstance(text, str):
        raise NoSum("a sum is read from a text")
    products = []
    for mark, word in marked_words(text):
        atom = read_atom(word)
        if mark in SIGNS:
            products.append((SIGNS[mark], atom, []))
        elif mark in JOINTS:
            products[-1][2].append((mark, atom))
        else:
            raise NoSum(f"{mark} is no mark")
    return tuple([(sign, atom, tuple(pairs)) for sign, atom, pairs in products])


def is_whole(thing):
    """Tell whether the thing is a whole number, which a truth is not."""
    return isinstance(thing, int) and not isinstance(thing, bool)


def is_atom(thing):
    """Tell whether the thing is an atom, as read."""
    return is_name(thing) or (is_whole(thing) and 0 <= thing <= GREATEST_ATOM)


def is_pair(thing):
    """Tell whether the thing is a pair of `*` or `//` and an atom."""
    if not isinstance(thing, tuple) or len(thing) != 2:
        return False
    mark, atom = thing
    return mark in JOINTS and is_atom(atom)


def is_product(thing):
    """Tell whether the thing is a product, as read."""
    if not isinstance(thing, tuple) or len(thing) != 3:
        return False
    sign, atom, pairs = thing
    if not is_whole(sign) or sign not in MARKS or not is_atom(atom):
        return False
    return isinstance(pairs, tuple) and all([is_pair(pair) for pair in pairs])


def is_sum(thing):
    """Tell whether the thing, any at all, is a sum's tuple."""
    if not isinstance(thing, tuple) or not all([is_product(product) for product in thing]):
        return False
    return 1 <= sum([1 + len(product[2]) for product in thing]) <= MOST_ATOMS


def sum_text(thing):
    """Tell the text of a sum's tuple, any thing at all."""
    if not is_sum(thing):
        raise NoSum("a sum's text is told of its tuple")
    parts = []
    for sign, atom, pairs in thing:
        parts.append(f"{MARKS[sign]} {atom}")
        parts.extend([f"{mark} {number}" for mark, number in pairs])
    return " ".join(parts).removeprefix("+ ")


def names_in(some):
    """Tell the names that stand in a sum, in order, each as often as it stands there."""
    atoms = []
    for _, atom, pairs in some:
        atoms.append(atom)
        atoms.extend([pair[1] for pair in pairs])
    return [atom for atom in atoms if isinstance(atom, str)]


def product_in(first, pairs, room, names):
    """Tell a product's value and no fault, or None and the fault; the names that are read go to names."""
    part = 1
    # The first atom is the product of 1 and itself: it may be too great as well.
    for mark, atom in (("*", first), *pairs):
        number = atom
        if isinstance(atom, str):
            names.append(atom)
            if atom not in room:
                return None, ("lack", atom)
            number = room[atom]
        if mark == "*":
            part = part * number
        elif number == 0:
            return None, ("nought",)
        else:
            part = part // number
        if not -LIMIT <= part <= LIMIT:
            return None, ("great",)
    return part, None


def worked_out(some, room):
    """Tell a sum's value, its fault, and the names that were read on the way, in order."""
    names = []
    total = 0
    for sign, first, pairs in some:
        part, fault = product_in(first, pairs, room, names)
        if fault is not None:
            return None, fault, names
        total = total + sign * part
        if not -LIMIT <= total <= LIMIT:
            return None, ("great",), names
    return total, None, names


def value_in(some, room):
    """Tell a pair: a sum's value in a room and None, or None and the first fault."""
    value, fault, _ = worked_out(some, room)
    return value, fault
