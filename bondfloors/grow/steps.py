"""Wider and higher floors that keep all crossings, and the floors that they come from."""

from bondfloors.base.bars import ACROSS, DOWN
from bondfloors.base.floors import MAX_CELLS, Floor
from bondfloors.base.values import is_whole
from bondfloors.errors import InvalidFloor, InvalidNumber, TooMany

WIDENED = "widened"
HEIGHTENED = "heightened"


def exchanged_floor(floor):
    """The exchanged floor of what has to be a floor."""
    if not isinstance(floor, Floor):
        raise InvalidFloor("this is no floor")
    return floor.exchanged()


def widened_once(floor):
    """The floor with as many columns behind it as bars are long."""
    width, height, length = floor.size
    last = width - 1
    bars = [bar for bar in floor.bars if bar[0] != last]
    # Only bars down begin in the last column.
    bars.extend([(last + length, y, DOWN) for x, y, _ in floor.bars if x == last])
    for row in range(height):
        first = width if floor.bar_at(last, row)[2] == ACROSS else last
        bars.append((first, row, ACROSS))
    return Floor.of((width + length, height, length), tuple(bars))


def widened(floor, *, times=1):
    """The floor that is widened so many times."""
    if not isinstance(floor, Floor):
        raise InvalidFloor("this is no floor")
    if not is_whole(times) or times < 0:
        raise InvalidNumber(times)
    if (floor.width + times * floor.length) * floor.height > MAX_CELLS:
        raise TooMany(MAX_CELLS)
    wider = floor
    for _ in range(times):
        wider = widened_once(wider)
    return wider


def heightened(floor, *, times=1):
    """The floor that is heightened so many times."""
    return widened(exchanged_floor(floor), times=times).exchanged()


def ends_widened(floor, y):
    """Whether the row ends as a row of a widened floor does."""
    width, _, length = floor.size
    # The last column of the narrower floor.
    last = width - length - 1
    if last < 0:
        return False
    bar = floor.bar_at(last, y)
    if floor.bar_at(width - 1, y)[2] == ACROSS:
        return bar[2] == ACROSS
    return bar == (last, y, ACROSS)


def narrowed(floor):
    """The floor that, widened once, is this one, or None."""
    if not isinstance(floor, Floor):
        raise InvalidFloor("this is no floor")
    width, height, length = floor.size
    if not all([ends_widened(floor, y) for y in range(height)]):
        return None
    last = width - length - 1
    bars = [bar for bar in floor.bars if bar[0] < last]
    bars.extend([(last, y, DOWN) for x, y, _ in floor.bars if x == width - 1])
    return Floor.of((width - length, height, length), tuple(bars))


def lowered(floor):
    """The floor that, heightened once, is this one, or None."""
    lower = narrowed(exchanged_floor(floor))
    return None if lower is None else lower.exchanged()


def is_least(floor):
    """Whether the floor is neither a widened nor a heightened one."""
    return narrowed(floor) is None and lowered(floor) is None


def taken_back(floor, step):
    """The floor before a step that was taken as often as can be, and how often."""
    many = 0
    now = floor
    before = step(now)
    while before is not None:
        many = many + 1
        now = before
        before = step(now)
    return (now, many)


def least(floor):
    """The least floor from which this one comes, and the tuple of the words of the steps that lead to this one."""
    now = floor
    words = []
    while not is_least(now):
        now, wider = taken_back(now, narrowed)
        now, higher = taken_back(now, lowered)
        words.extend([WIDENED] * wider + [HEIGHTENED] * higher)
    return (now, tuple(words[::-1]))
