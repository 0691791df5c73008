"""Boards: the cells of a size as the bits of one integer, and the ways to fill those that are free."""

from bondfloors.base.bars import ACROSS, DOWN, can_hold_floor, cells_of, lies_within


def states_behind(states, bit, begun):
    """The dict from states to how many ways lead there, behind the cell of this bit, where these bars may begin."""
    behind = {}
    for state, many in states.items():
        masks = [0] if state & bit else [mask for _, mask in begun if not state & mask]
        for mask in masks:
            behind[state | mask] = behind.get(state | mask, 0) + many
    return behind


class Board:
    """The bits of the cells of a size of few cells, and for each of them the bars that may begin there."""

    def __init__(self, size):
        width, height, _ = size
        # Bits follow one another along the lesser side, so that few states differ behind each cell.
        self.right, self.below = (1, width) if width <= height else (height, 1)
        self.extent = size
        self.full = (1 << (width * height)) - 1
        # By rows, from the top: the order in which floors are compared.
        self.bits = [self.bit(x, y) for y in range(height) for x in range(width)]
        self.begun = {self.bit(x, y): self.bars_from(x, y) for y in range(height) for x in range(width)}

    def bit(self, x, y):
        """The bit of a cell."""
        return 1 << (x * self.right + y * self.below)

    def mask(self, bar):
        """The bits of the cells of a bar."""
        return sum([self.bit(x, y) for x, y in cells_of(bar, self.extent[2])])

    def bars_from(self, x, y):
        """The list of the pairs (bar, mask) of the bars that may begin at a cell, the one across first."""
        bars = [(x, y, way) for way in (ACROSS, DOWN)]
        return [(bar, self.mask(bar)) for bar in bars if lies_within(self.extent, bar)]

    def first_free(self, filled):
        """The index, by rows, of the first cell that is free; one has to be."""
        at = 0
        while filled & self.bits[at]:
            at = at + 1
        return at

    def fitting(self, filled):
        """The list of the pairs (bar, mask) of the bars that fit at the first free cell, the one across first."""
        bit = self.bits[self.first_free(filled)]
        return [(bar, mask) for bar, mask in self.begun[bit] if not filled & mask]

    def many_ways(self, filled):
        """The number of the ways to fill the free cells with bars."""
        if not can_hold_floor(self.extent):
            return 0
        states = {filled: 1}
        for bit in sorted(self.begun):
            states = states_behind(states, bit, self.begun[bit])
        return states.get(self.full, 0)

    def filling(self, filled):
        """A tuple of bars that fill the free cells, or None."""
        todo = [(filled, ())] if can_hold_floor(self.extent) else []
        seen = set()
        while len(todo) > 0:
            now, bars = todo.pop()
            if now == self.full:
                return bars
            if now in seen:
                continue
            # A state that comes again has led to nothing: all that followed it has been tried before.
            seen.add(now)
            # The lowest bit that is not filled, whatever its row is.
            for bar, mask in self.begun[(now + 1) & ~now]:
                if not now & mask:
                    todo.append((now | mask, (*bars, bar)))
        return None
