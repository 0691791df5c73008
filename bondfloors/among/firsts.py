"""The first bond of a size of few cells, by rows."""

from bondfloors.among.boards import Board
from bondfloors.base.bars import ACROSS


def lines_crossed(size, bar):
    """The lines that the bar crosses, as bits: those of the upright lines first, then those of the level ones."""
    width, _, length = size
    x, y, way = bar
    many = (1 << (length - 1)) - 1
    return many << x if way == ACROSS else many << (width - 1 + y)


def levels_above(size, row):
    """The bits of the level lines above the cells of a row."""
    return ((1 << row) - 1) << (size[0] - 1)


def first_bond_bars(size):
    """The bars of the first bond of the size, or None."""
    width, height, _ = size
    board = Board(size)
    every = (1 << (width - 1 + height - 1)) - 1
    todo = [(0, 0, ())]
    seen = set()
    while len(todo) > 0:
        filled, crossed, bars = todo.pop()
        if filled == board.full and crossed == every:
            return bars
        if filled == board.full or (filled, crossed) in seen:
            continue
        # A state that comes again has led to no bond: all that followed it has been tried before.
        seen.add((filled, crossed))
        above = levels_above(size, board.first_free(filled) // width)
        # Bars that are still to come begin too low to cross the level lines above them.
        if crossed & above == above:
            for bar, mask in board.fitting(filled)[::-1]:
                todo.append((filled | mask, crossed | lines_crossed(size, bar), (*bars, bar)))
    return None
