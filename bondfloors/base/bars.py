"""Bars: their form, their place in a size, and the cells that they cover."""

from bondfloors.base.values import is_whole

ACROSS = "across"
DOWN = "down"


def is_way(value):
    """Whether the value is a way of bars."""
    return isinstance(value, str) and value in (ACROSS, DOWN)


def other_way(way):
    """The way that is not this one."""
    return DOWN if way == ACROSS else ACROSS


def is_bar(value):
    """Whether the value has the form of a bar, wherever it would lie."""
    if not isinstance(value, tuple) or len(value) != 3:
        return False
    x, y, way = value
    return is_whole(x) and is_whole(y) and is_way(way)


def lies_within(size, bar):
    """Whether all cells of the bar are cells of the size."""
    width, height, length = size
    x, y, way = bar
    if way == ACROSS:
        return 0 <= x <= width - length and 0 <= y < height
    return 0 <= x < width and 0 <= y <= height - length


def cells_of(bar, length):
    """The list of the cells that the bar covers."""
    x, y, way = bar
    if way == ACROSS:
        return [(x + step, y) for step in range(length)]
    return [(x, y + step) for step in range(length)]


def can_hold_floor(size):
    """Whether the length divides the width or the height, so that there is a floor of the size."""
    width, height, length = size
    return width % length == 0 or height % length == 0


def plain_bars(size):
    """The tuple of the bars of a floor, all across, or all down if the length does not divide the width."""
    width, height, length = size
    if width % length == 0:
        return tuple([(x, y, ACROSS) for x in range(0, width, length) for y in range(height)])
    return tuple([(x, y, DOWN) for x in range(width) for y in range(0, height, length)])
