"""Things that are no texts, for the calls that take any thing."""

from freshcells.cells import Cell


def no_texts():
    """Tell things of each kind that are no texts, new ones each time."""
    deep = ()
    for _ in range(5000):
        deep = (deep,)
    return [None, True, False, 0, 1, -1, 10 ** 39, -10 ** 39, [], ["a"], (), ("a",), {}, {"a": 1}, [["a"]],
            [None, [True]], ({"a": ()},), Cell("show 1"), deep]
