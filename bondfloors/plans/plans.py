"""Plans: blocks that together cover each cell of a size just once."""

from bondfloors.base.floors import MAX_CELLS, Floor
from bondfloors.base.values import is_whole
from bondfloors.base.words import is_size
from bondfloors.errors import InvalidLine, InvalidNumber, InvalidOperation, InvalidPlan, TooMany
from bondfloors.lines.crossings import LEVEL, UPRIGHT, is_line, is_line_way, side_along
from bondfloors.plans.blocks import bars_of, cover_once, exchanged_block, is_block, spans_of
from bondfloors.plans.runs import many_in, next_in, runs_of

MAX_BLOCKS = 64


class Plan:
    """A floor that is told by at most 64 blocks. A plan never changes."""

    def __init__(self, size, *blocks):
        if not is_size(size) or len(blocks) > MAX_BLOCKS or not cover_once(size, blocks):
            raise InvalidPlan("the blocks, at most 64, do not cover each cell of a size just once")
        self._size = size
        self._blocks = tuple(sorted(blocks))

    @classmethod
    def of(cls, size, blocks):
        """The plan of a size with the blocks of a tuple."""
        if not isinstance(blocks, tuple):
            raise InvalidPlan("the blocks are no tuple")
        return cls(size, *blocks)

    @property
    def size(self):
        """The tuple of width, height and length."""
        return self._size

    @property
    def blocks(self):
        """The ascending tuple of the blocks."""
        return self._blocks

    @property
    def bars(self):
        """The number of the bars of the floor."""
        width, height, length = self._size
        return width * height // length

    def crossings(self, line):
        """The number of the bars of the floor that cross the line."""
        if not is_line(self._size, line):
            raise InvalidLine("this is no line of the plan")
        way, at = line
        length = self._size[2]
        spans = spans_of(self._blocks, way)
        return sum([many for start, end, many in spans if start < at < end and (at - start) % length != 0])

    def is_seam(self, line):
        """Whether no bar of the floor crosses the line."""
        return self.crossings(line) == 0

    def _runs(self, way):
        """The runs of the seams of one way."""
        return runs_of(side_along(self._size, way), spans_of(self._blocks, way), self._size[2])

    def many_seams(self):
        """The number of the seams of the floor."""
        return many_in(self._runs(UPRIGHT)) + many_in(self._runs(LEVEL))

    def next_seam(self, way, first):
        """The least number from first on for which the line of this way is a seam, or None."""
        if not is_line_way(way):
            raise InvalidOperation("this is no way of lines")
        if not is_whole(first) or first < 0:
            raise InvalidNumber(first)
        return next_in(self._runs(way), first)

    def exchanged(self):
        """The plan of the exchanged floor, with exchanged blocks."""
        width, height, length = self._size
        return Plan.of((height, width, length), tuple([exchanged_block(block) for block in self._blocks]))

    def laid(self):
        """The floor of the plan."""
        width, height, length = self._size
        if width * height > MAX_CELLS:
            raise TooMany(MAX_CELLS)
        return Floor.of(self._size, tuple([bar for block in self._blocks for bar in bars_of(block, length)]))

    def __len__(self):
        return len(self._blocks)

    def __contains__(self, value):
        # True equals 1 for Python, but (True, 0, 2, 2, "across") is no block.
        return is_block(value) and value in self._blocks

    def __eq__(self, other):
        return isinstance(other, Plan) and self._size == other._size and self._blocks == other._blocks

    def __str__(self):
        return f"plan of {self._size[0]} by {self._size[1]} cells, {len(self._blocks)} blocks"
