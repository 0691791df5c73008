"""Floors from letters, and values that are wrong in most places."""

from bondfloors import errors
from bondfloors.base.floors import Floor

BIG = 10 ** 30
FORTY = 10 ** 40 - 1

FIVE_ROWS = ("v>-v>-", "|>-|vv", "vv>-||", "||v>-v", ">-|>-|")
# The bars of FIVE, written out by hand as the letters above show them.
FIVE_BARS = (
    (0, 0, "down"), (0, 2, "down"), (0, 4, "across"), (1, 0, "across"), (1, 1, "across"),
    (1, 2, "down"), (2, 2, "across"), (2, 3, "down"), (3, 0, "down"), (3, 3, "across"),
    (3, 4, "across"), (4, 0, "across"), (4, 1, "down"), (5, 1, "down"), (5, 3, "down"),
)


def floor_of(length, rows):
    """The floor that rows of letters show: > and v begin a bar across and a bar down."""
    ways = {">": "across", "v": "down"}
    bars = [
        (x, y, ways[letter])
        for y, row in enumerate(rows)
        for x, letter in enumerate(row)
        if letter in ways
    ]
    return Floor((len(rows[0]), len(rows), length), *bars)


def five():
    return floor_of(2, FIVE_ROWS)


def cells(bar, length):
    """The cells of a bar, worked out apart from the package."""
    x, y, way = bar
    if way == "across":
        return [(x + k, y) for k in range(length)]
    return [(x, y + k) for k in range(length)]


def nested(depth, leaf, wrap):
    """The leaf within so many lists, tuples or dicts."""
    for _ in range(depth):
        leaf = wrap(leaf)
    return leaf


def odd_values():
    """Values of every kind that are no integer from 0 on, no name, no size, no bar, no way and no tuple of bars."""
    floor = five()
    return [
        True, False, None, -1, -FORTY, "", "6", "6 5 2", "Across", "across ", "down\n", "UP", "~",
        (), (None,), (6, 5), (6, 5, 2, 2), (6, 5, True), (True, 5, 2), ((6, 5, 2),), (("a", "b"), {}),
        [], [6, 5, 2], [0, 0, "across"], [(0, 0, "across")], [[]],
        {}, {6: 5}, {"across": 1}, {(6, 5, 2): [None]},
        nested(12, 1, lambda value: (value,)),
        nested(12, "across", lambda value: [value]),
        nested(12, (6, 5, 2), lambda value: {"a": value}),
        floor, (floor,), [floor], {"floor": floor},
        errors.BondError("wrong"), errors.Unlaid((3, 3, 2)),
    ]
