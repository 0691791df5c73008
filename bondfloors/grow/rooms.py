"""Floors put together, side by side or one above the other, and the trees that tell how."""

from bondfloors.base.floors import MAX_CELLS, Floor
from bondfloors.errors import InvalidFloor, TooMany
from bondfloors.grow.steps import exchanged_floor
from bondfloors.lines.crossings import UPRIGHT, seams

BESIDE = "beside"
ABOVE = "above"


def fit_beside(values):
    """Whether the values are floors, at least one, of equal lengths and heights."""
    if len(values) == 0 or not all([isinstance(value, Floor) for value in values]):
        return False
    first = values[0]
    return all([floor.length == first.length and floor.height == first.height for floor in values])


def beside(*floors):
    """The floor that consists of these floors, side by side from the left."""
    if not fit_beside(floors):
        raise InvalidFloor("these are no floors of equal lengths and heights")
    _, height, length = floors[0].size
    width = sum([floor.width for floor in floors])
    if width * height > MAX_CELLS:
        raise TooMany(MAX_CELLS)
    bars = []
    left = 0
    for floor in floors:
        bars.extend([(left + x, y, way) for x, y, way in floor.bars])
        left = left + floor.width
    return Floor.of((width, height, length), tuple(bars))


def above(*floors):
    """The floor that consists of these floors, one above the other from the top."""
    exchanged = [exchanged_floor(floor) for floor in floors]
    return beside(*exchanged).exchanged()


def columns_of(floor, first, end):
    """The floor of the columns from first to end - 1, between seams or walls."""
    bars = [(x - first, y, way) for x, y, way in floor.bars if first <= x < end]
    return Floor.of((end - first, floor.height, floor.length), tuple(bars))


def cut_upright(floor):
    """The list of the floors between the upright seams, from the left."""
    inner = [at for way, at in seams(floor) if way == UPRIGHT]
    cuts = [0, *inner, floor.width]
    return [columns_of(floor, first, end) for first, end in zip(cuts, cuts[1:])]


def cut(floor):
    """The word and the list of the parts by which the floor is put together; for a bond, no word and no parts."""
    parts = cut_upright(floor)
    if len(parts) > 1:
        return (BESIDE, parts)
    parts = cut_upright(floor.exchanged())
    if len(parts) > 1:
        return (ABOVE, [part.exchanged() for part in parts])
    return (None, [])


def rooms(floor):
    """The tree of the floor."""
    if not isinstance(floor, Floor):
        raise InvalidFloor("this is no floor")
    word, parts = cut(floor)
    if word is None:
        return floor
    return (word, *[rooms(part) for part in parts])


def composed(value):
    """The floor that the words of the value put together, though the value may not be its tree."""
    if isinstance(value, Floor):
        return value
    if not isinstance(value, tuple) or len(value) == 0 or value[0] not in (BESIDE, ABOVE):
        raise InvalidFloor("this is no tree")
    floors = [composed(part) for part in value[1:]]
    return beside(*floors) if value[0] == BESIDE else above(*floors)


def is_tree(value):
    """Whether the value is the tree of some floor of at most 400 cells."""
    try:
        floor = composed(value)
    except (InvalidFloor, TooMany):
        return False
    # The same floor can be put together in other ways, too: words within the same word, or level seams first.
    return rooms(floor) == value


def put_together(tree):
    """The floor of the tree."""
    if not is_tree(tree):
        raise InvalidFloor("this is no tree")
    return composed(tree)


def placed_rooms(floor, x, y):
    """The list of the triples of the bonds, where the first cell of the floor is (x, y)."""
    word, parts = cut(floor)
    if word is None:
        return [(x, y, floor)]
    placed = []
    left, top = x, y
    for part in parts:
        placed.extend(placed_rooms(part, left, top))
        if word == BESIDE:
            left = left + part.width
        else:
            top = top + part.height
    return placed


def room_list(floor):
    """The tuple of the triples (x, y, bond) of all bonds of the tree of the floor, ascending by places."""
    if not isinstance(floor, Floor):
        raise InvalidFloor("this is no floor")
    bond_at = {(x, y): bond for x, y, bond in placed_rooms(floor, 0, 0)}
    return tuple([(x, y, bond_at[(x, y)]) for x, y in sorted(bond_at)])
