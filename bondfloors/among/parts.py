"""Parts of floors: some bars of a size, and the floors that have all of them."""

from bondfloors.among.boards import Board
from bondfloors.among.counts import MAX_COUNTED
from bondfloors.base.bars import ACROSS, cells_of, is_bar, lies_within
from bondfloors.base.floors import Floor
from bondfloors.base.words import is_size
from bondfloors.errors import InvalidOperation, InvalidSize, TooMany
from bondfloors.plans.blocks import overlap


def block_of(bar, length):
    """The block that consists of the bar."""
    x, y, way = bar
    # The length may have thirty figures: bars are compared as rectangles, not cell by cell.
    return (x, y, length, 1, way) if way == ACROSS else (x, y, 1, length, way)


def is_part(size, value):
    """Whether the value is a part of the size."""
    if not is_size(size):
        raise InvalidSize("this is no size")
    if not isinstance(value, tuple):
        return False
    if not all([is_bar(bar) and lies_within(size, bar) for bar in value]):
        return False
    if not all([one < other for one, other in zip(value, value[1:])]):
        return False
    blocks = [block_of(bar, size[2]) for bar in value]
    for at, block in enumerate(blocks):
        if any([overlap(block, other) for other in blocks[:at]]):
            return False
    return True


def check_part(size, part):
    """Raises the errors of what is no size, no part, or has too many cells to be counted."""
    if not is_part(size, part):
        raise InvalidOperation("this is no part of the size")
    if size[0] * size[1] > MAX_COUNTED:
        raise TooMany(MAX_COUNTED)


def filled_by(board, part):
    """The bits of the cells that the bars of the part cover."""
    return sum([board.mask(bar) for bar in part])


def many_finished(size, part):
    """The number of the floors that finish the part."""
    check_part(size, part)
    board = Board(size)
    return board.many_ways(filled_by(board, part))


def finished(size, part):
    """A floor that finishes the part, or None."""
    check_part(size, part)
    board = Board(size)
    added = board.filling(filled_by(board, part))
    return None if added is None else Floor.of(size, part + added)


def sure_bars(size, part):
    """The ascending tuple of the bars that all floors have that finish the part."""
    floor = finished(size, part)
    if floor is None:
        return ()
    board = Board(size)
    filled = filled_by(board, part)
    every = board.many_ways(filled)
    added = [bar for bar in floor.bars if bar not in part]
    # A bar of one of the floors is a bar of all if as many floors are left with it.
    sure = [bar for bar in added if board.many_ways(filled | board.mask(bar)) == every]
    return tuple(sorted(part + tuple(sure)))


def free_cells(size, part):
    """The ascending tuple of the cells that neither the part nor a sure bar covers."""
    sure = sure_bars(size, part)
    covered = {cell: True for bar in part + sure for cell in cells_of(bar, size[2])}
    width, height, _ = size
    return tuple([(x, y) for x in range(width) for y in range(height) if (x, y) not in covered])
