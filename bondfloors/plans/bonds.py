"""Bonds for all sizes that have one, as plans of a few blocks, and papers that tell whether there is one."""

from bondfloors.base.bars import ACROSS, DOWN
from bondfloors.base.words import is_size
from bondfloors.errors import InvalidSize, Unlaid
from bondfloors.plans.pieces import stacked, stepped
from bondfloors.plans.plans import Plan
from bondfloors.sizes.verdicts import has_bond, is_one_bar, is_reason, reason


def right_parts(length, height):
    """The pairs (rows, way) of the last columns, from the first row to where the lowest bars down begin."""
    many, left = height // length - 1, height % length
    if left > 0:
        return [(left, ACROSS), (many * length, DOWN)]
    if length > 2:
        return [(2, ACROSS), ((many - 1) * length, DOWN), (length - 2, ACROSS)]
    return [(1, ACROSS), (2, DOWN), (1, ACROSS), (height - 6, DOWN)]


def left_parts(length, height):
    """The pairs (rows, way) of the first columns, from below the uppermost bars down to the last row."""
    many, left = height // length - 1, height % length
    if left > 0:
        return [(many * length, DOWN), (left, ACROSS)]
    if length > 2:
        return [(1, ACROSS), ((many - 1) * length, DOWN), (length - 1, ACROSS)]
    return [(2, DOWN), (1, ACROSS), (height - 6, DOWN), (1, ACROSS)]


def middle_parts(length, height):
    """The pairs (rows, way) of the columns between the first and the last ones."""
    # Here the first and the last columns leave the level line 4 uncrossed.
    if length == 2 and height % 2 == 0:
        return [(1, ACROSS), (2, DOWN), (height - 7, ACROSS)]
    return [(height - 2 * length, ACROSS)]


def bond_blocks(size):
    """The list of the blocks of a bond, where the width is a multiple of the length as the document asks."""
    width, height, length = size
    steps = [(1, DOWN), (width // length - 2, ACROSS), (length - 1, DOWN)]
    low = height - length
    return [
        *stepped(0, 0, length, steps),
        *stepped(length, low, length, steps),
        *stacked(width - length, 0, length, right_parts(length, height)),
        *stacked(0, length, length, left_parts(length, height)),
        *stacked(length, length, width - 2 * length, middle_parts(length, height)),
    ]


def is_laid_by_rows(size):
    """Whether bond_blocks takes the size as it is, not exchanged."""
    width, height, length = size
    # With length 2 and two even sides the height has to be at least 8, and 6 is the only one below.
    return width % length == 0 and (height, length) != (6, 2)


def bond_plan(size):
    """A plan whose floor is a bond."""
    if not has_bond(size):
        raise Unlaid(size)
    width, height, length = size
    if is_one_bar(size):
        return Plan(size, (0, 0, width, height, ACROSS if height == 1 else DOWN))
    if is_laid_by_rows(size):
        return Plan.of(size, tuple(bond_blocks(size)))
    return bond_plan((height, width, length)).exchanged()


def bond_paper(size):
    """A bond paper of the size: a plan of a bond, or a reason against one."""
    if has_bond(size):
        return ("plan", bond_plan(size))
    return ("reason", reason(size))


def is_bond_paper(size, value):
    """Whether the value is a bond paper of the size."""
    if not is_size(size):
        raise InvalidSize("this is no size")
    if not isinstance(value, tuple) or len(value) != 2:
        return False
    kind, told = value
    if kind == "reason":
        return is_reason(size, told)
    return kind == "plan" and isinstance(told, Plan) and told.size == size and told.many_seams() == 0
