"""Blocks in a row or in a column, of which plans are put together."""

from bondfloors.base.bars import DOWN


def stepped(x, y, length, steps):
    """The list of the blocks of as many rows as bars are long, from left to right by pairs (many, way).

    A step down takes one column, with one bar; a step across takes as many columns as bars are long.
    """
    blocks = []
    left = x
    for many, way in steps:
        width = many if way == DOWN else many * length
        if many > 0:
            blocks.append((left, y, width, length, way))
        left = left + width
    return blocks


def stacked(x, y, width, parts):
    """The list of the blocks of some columns, from above by pairs (rows, way)."""
    blocks = []
    top = y
    for rows, way in parts:
        blocks.append((x, top, width, rows, way))
        top = top + rows
    return blocks
