"""The fewest seams that a floor of a size has, and plans and floors that have no more."""

from bondfloors.base.bars import ACROSS, DOWN
from bondfloors.errors import Unlaid
from bondfloors.plans.bonds import bond_plan
from bondfloors.plans.pieces import stacked, stepped
from bondfloors.plans.plans import Plan
from bondfloors.sizes.verdicts import can_be_laid, has_bond


def fewest_in_flat(width, height, length):
    """The fewest seams of a floor with a height of at most the length, and a width that is not less."""
    many, left = width // length, width % length
    if height < length:
        return height - 1 + many - 1
    return left + many - 1 if left > 0 else length + many - 2


def fewest_seams(size):
    """The fewest seams that a floor of the size has."""
    if not can_be_laid(size):
        raise Unlaid(size)
    if has_bond(size):
        return 0
    length = size[2]
    height, width = min(size[:2]), max(size[:2])
    if height <= length:
        return fewest_in_flat(width, height, length)
    many, left = width // length, width % length
    if height == 2 * length and left == 0 and (many == 2 or length == 2):
        return 2
    return 1


def low_blocks(width, height, length):
    """The blocks where the height is less than twice the length, but greater than it."""
    low = height - length
    steps = [(1, DOWN), (width // length - 2, ACROSS), (length - 1, DOWN)]
    return [
        *stacked(0, 0, length, [(length, DOWN), (low, ACROSS)]),
        *stacked(length, 0, width - length, [(low, ACROSS)]),
        *stepped(length, low, length, steps),
    ]


def twofold_steps(width, length):
    """The steps of the upper and of the lower row where the height is twice the length."""
    many, left = width // length, width % length
    if left > 0:
        return [(left, DOWN), (many, ACROSS)], [(many, ACROSS), (left, DOWN)]
    if many == 2:
        return [(length, DOWN), (1, ACROSS)], [(1, ACROSS), (length, DOWN)]
    if length == 2:
        return [(1, DOWN), (many - 1, ACROSS), (1, DOWN)], [(2, DOWN), (many - 1, ACROSS)]
    upper = [(length - 1, DOWN), (many - 2, ACROSS), (1, DOWN), (1, ACROSS)]
    return upper, upper[::-1]


def fewest_blocks(width, height, length):
    """The blocks of a floor with the fewest seams where there is no bond and the width is not the lesser side."""
    if height < length:
        return [(0, 0, width, height, ACROSS)]
    if height == length:
        columns = width % length or length
        return stepped(0, 0, length, [(columns, DOWN), ((width - columns) // length, ACROSS)])
    if height < 2 * length:
        return low_blocks(width, height, length)
    if height == 2 * length:
        upper, lower = twofold_steps(width, length)
        return stepped(0, 0, length, upper) + stepped(0, length, length, lower)
    # This is the size (6, 6, 2): a bond, and a column of bars down behind it.
    return [*bond_plan((width - 1, height, length)).blocks, (width - 1, 0, 1, height, DOWN)]


def fewest_plan(size):
    """A plan whose floor has the fewest seams."""
    if not can_be_laid(size):
        raise Unlaid(size)
    if has_bond(size):
        return bond_plan(size)
    width, height, length = size
    if width < height:
        return fewest_plan((height, width, length)).exchanged()
    return Plan.of(size, tuple(fewest_blocks(width, height, length)))


def is_fewest(size, value):
    """Whether the value is a plan of the size whose floor has the fewest seams."""
    fewest = fewest_seams(size)
    return isinstance(value, Plan) and value.size == size and value.many_seams() == fewest


def fewest_floor(size):
    """A floor of the size with the fewest seams."""
    return fewest_plan(size).laid()
