"""Lines between columns and rows, and the bars that cross them."""

from bondfloors.base.bars import ACROSS, can_hold_floor
from bondfloors.base.floors import Floor
from bondfloors.base.values import is_whole
from bondfloors.base.words import is_size
from bondfloors.errors import InvalidFloor, InvalidLine, InvalidSize, Unlaid

UPRIGHT = "upright"
LEVEL = "level"


def is_line_way(value):
    """Whether the value is the way of a line."""
    return isinstance(value, str) and value in (UPRIGHT, LEVEL)


def side_along(size, way):
    """The side of the size along which the lines of this way are numbered."""
    return size[0] if way == UPRIGHT else size[1]


def side_across(size, way):
    """The side of the size that the lines of this way go through."""
    return size[1] if way == UPRIGHT else size[0]


def is_line(size, value):
    """Whether the value is a line of the size."""
    if not is_size(size):
        raise InvalidSize("this is no size")
    if not isinstance(value, tuple) or len(value) != 2:
        return False
    way, at = value
    return is_line_way(way) and is_whole(at) and 1 <= at < side_along(size, way)


def remainder(size, line):
    """What is left of the crossings of the line, divided by the length, in every floor of the size."""
    if not is_line(size, line):
        raise InvalidLine("this is no line of the size")
    if not can_hold_floor(size):
        raise Unlaid(size)
    way, at = line
    length = size[2]
    return 0 if at % length == 0 else side_across(size, way) % length


def need(size, line):
    """The least crossings that the line can have where it is no seam."""
    return remainder(size, line) or size[2]


def profile(floor):
    """The pair of the tuples of the crossings of all upright lines and of all level lines."""
    if not isinstance(floor, Floor):
        raise InvalidFloor("this is no floor")
    # The line c stands at the index c - 1.
    uprights = [0] * (floor.width - 1)
    levels = [0] * (floor.height - 1)
    for x, y, way in floor.bars:
        counts = uprights if way == ACROSS else levels
        first = x if way == ACROSS else y
        for at in range(first, first + floor.length - 1):
            counts[at] = counts[at] + 1
    return (tuple(uprights), tuple(levels))


def crossings(floor, line):
    """The number of the bars of the floor that cross the line."""
    uprights, levels = profile(floor)
    if not is_line(floor.size, line):
        raise InvalidLine("this is no line of the floor")
    way, at = line
    return uprights[at - 1] if way == UPRIGHT else levels[at - 1]


def uncrossed(way, counts):
    """The tuple of the lines of a way that have no crossings."""
    return tuple([(way, at + 1) for at, many in enumerate(counts) if many == 0])


def seams(floor):
    """The ascending tuple of the lines that no bar crosses."""
    uprights, levels = profile(floor)
    return uncrossed(LEVEL, levels) + uncrossed(UPRIGHT, uprights)


def is_bond(floor):
    """Whether the floor has no seams."""
    return len(seams(floor)) == 0


def strength(floor):
    """The least crossings of all lines of the floor."""
    uprights, levels = profile(floor)
    return min(uprights + levels)
