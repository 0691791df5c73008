"""Turnings: squares of bars of one way that are turned to the other way, and rows of them between floors."""

from bondfloors.base.bars import ACROSS, DOWN, other_way
from bondfloors.base.floors import Floor
from bondfloors.base.values import is_index, is_whole
from bondfloors.errors import InvalidFloor, InvalidNumber, InvalidOperation, TooMany

MAX_TURNINGS = 5000


def square_bars(x, y, length, way):
    """The list of the bars of a way that cover the square with the first cell (x, y)."""
    if way == ACROSS:
        return [(x, y + step, way) for step in range(length)]
    return [(x + step, y, way) for step in range(length)]


def way_of_square(bars, x, y, length):
    """The way of the bars, keys of a dict, that cover the square with the first cell (x, y), or None."""
    for way in (ACROSS, DOWN):
        if all([bar in bars for bar in square_bars(x, y, length, way)]):
            return way
    return None


def turn_square(bars, x, y, length):
    """Turns the square with the first cell (x, y) in a dict of bars; returns whether it is a turning."""
    way = way_of_square(bars, x, y, length)
    if way is None:
        return False
    for bar in square_bars(x, y, length, way):
        del bars[bar]
    for bar in square_bars(x, y, length, other_way(way)):
        bars[bar] = True
    return True


def dict_of(bars):
    """The dict that has the bars as its keys."""
    return {bar: True for bar in bars}


def turnings(floor):
    """The ascending tuple of the pairs (x, y) of the first cells of all turnings of the floor."""
    if not isinstance(floor, Floor):
        raise InvalidFloor("this is no floor")
    bars = dict_of(floor.bars)
    return tuple([(x, y) for x, y, _ in floor.bars if way_of_square(bars, x, y, floor.length) is not None])


def turned(floor, x, y):
    """The floor behind the turning at the pair (x, y)."""
    if not isinstance(floor, Floor):
        raise InvalidFloor("this is no floor")
    if not is_index(x, floor.width):
        raise InvalidNumber(x)
    if not is_index(y, floor.height):
        raise InvalidNumber(y)
    return turned_along(floor, ((x, y),))


def is_pair(value):
    """Whether the value is a pair of integers."""
    return isinstance(value, tuple) and len(value) == 2 and all([is_whole(item) for item in value])


def bars_behind(floor, row):
    """The ascending tuple of the bars behind a row of turnings, or None if the value is no such row."""
    if not isinstance(row, tuple):
        return None
    bars = dict_of(floor.bars)
    for pair in row:
        if not is_pair(pair) or not turn_square(bars, pair[0], pair[1], floor.length):
            return None
    return tuple(sorted(bars))


def turned_along(floor, row):
    """The floor behind a row of turnings, each at its time."""
    if not isinstance(floor, Floor):
        raise InvalidFloor("this is no floor")
    bars = bars_behind(floor, row)
    if bars is None:
        raise InvalidOperation("this is no row of turnings of the floor")
    return Floor.of(floor.size, bars)


def make_begin(bars, place, way, length, row):
    """Makes the bar that begins at the place one of this way; adds the turnings to the row.

    For a bar down, a bar down or a wall is to lie to the left of all its cells; for one across, likewise above them.
    So bars of the other way can only begin beside it, and can be made to, one by one.
    """
    x, y = place
    if (x, y, way) in bars:
        return
    other = other_way(way)
    for step in range(1, length):
        beside = (x + step, y) if other == DOWN else (x, y + step)
        make_begin(bars, beside, other, length, row)
    turn_square(bars, x, y, length)
    row.append((x, y))


def row_to_plain(floor):
    """The list of the turnings that lead to the plain floor, however many these are."""
    width, height, length = floor.size
    if width % length != 0:
        return [(x, y) for y, x in row_to_plain(floor.exchanged())]
    bars = dict_of(floor.bars)
    row = []
    for y in range(height):
        for x in range(0, width, length):
            # All cells before lie as in the plain floor, so that some bar begins here.
            make_begin(bars, (x, y), ACROSS, length, row)
    return row


def limited(row):
    """The tuple of a list of turnings that are not too many."""
    if len(row) > MAX_TURNINGS:
        raise TooMany(MAX_TURNINGS)
    return tuple(row)


def plain_row(floor):
    """A row of turnings that leads to the plain floor of the size."""
    if not isinstance(floor, Floor):
        raise InvalidFloor("this is no floor")
    return limited(row_to_plain(floor))


def check_floors(one, other):
    """Raises the error of what are no two floors of one size."""
    for floor in (one, other):
        if not isinstance(floor, Floor):
            raise InvalidFloor("this is no floor")
    if one.size != other.size:
        raise InvalidFloor("these floors have unlike sizes")


def turning_row(one, other):
    """A row of turnings that leads from one floor to the other one."""
    check_floors(one, other)
    there = row_to_plain(one)
    back = row_to_plain(other)
    # What both rows end with would be turned, and turned back at once.
    while len(there) > 0 and len(back) > 0 and there[-1] == back[-1]:
        there.pop()
        back.pop()
    return limited(there + back[::-1])


def is_turning_row(one, other, value):
    """Whether the value is a row of turnings that leads from one floor to the other one."""
    check_floors(one, other)
    return bars_behind(one, value) == other.bars
