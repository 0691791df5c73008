"""Blocks: rectangles of cells that are laid with bars of one way."""

from bondfloors.base.bars import ACROSS, DOWN, is_way, other_way
from bondfloors.base.values import is_whole
from bondfloors.lines.crossings import UPRIGHT


def is_block(value):
    """Whether the value has the form of a block, wherever it would lie."""
    if not isinstance(value, tuple) or len(value) != 5:
        return False
    return all([is_whole(item) for item in value[:4]]) and is_way(value[4])


def fits(size, block):
    """Whether the block lies within the size, and bars of its way fill it."""
    x, y, width, height, way = block
    if x < 0 or y < 0 or width < 1 or height < 1:
        return False
    if x + width > size[0] or y + height > size[1]:
        return False
    along = width if way == ACROSS else height
    return along % size[2] == 0


def overlap(one, other):
    """Whether the blocks have a cell in common."""
    beside = one[0] + one[2] <= other[0] or other[0] + other[2] <= one[0]
    above = one[1] + one[3] <= other[1] or other[1] + other[3] <= one[1]
    return not beside and not above


def cover_once(size, blocks):
    """Whether these values are blocks that together cover each cell of the size just once."""
    if not all([is_block(block) and fits(size, block) for block in blocks]):
        return False
    for at, block in enumerate(blocks):
        if any([overlap(block, other) for other in blocks[:at]]):
            return False
    # Blocks without a common cell leave none free exactly if they have as many cells as the size.
    return sum([block[2] * block[3] for block in blocks]) == size[0] * size[1]


def exchanged_block(block):
    """The block in which the cell (x, y) takes the place of (y, x)."""
    x, y, width, height, way = block
    return (y, x, height, width, other_way(way))


def bars_of(block, length):
    """The list of the bars of the block."""
    x, y, width, height, way = block
    if way == ACROSS:
        return [(x + step, y + row, ACROSS) for step in range(0, width, length) for row in range(height)]
    return [(x + column, y + step, DOWN) for column in range(width) for step in range(0, height, length)]


def spans_of(blocks, way):
    """The list of the triples (first, end, many) of the blocks whose bars cross lines of this way.

    The bars stand from the line first to the line end, as many beside one another.
    """
    if way == UPRIGHT:
        return [(x, x + width, height) for x, _, width, height, laid in blocks if laid == ACROSS]
    return [(y, y + height, width) for _, y, width, height, laid in blocks if laid == DOWN]
