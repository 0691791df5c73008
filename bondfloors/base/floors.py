"""Floors: bars that together cover each cell of a size just once."""

from bondfloors.base.bars import ACROSS, can_hold_floor, cells_of, is_bar, is_way, lies_within, other_way, plain_bars
from bondfloors.base.values import is_index
from bondfloors.base.words import is_size
from bondfloors.errors import InvalidFloor, InvalidNumber, InvalidOperation, InvalidSize, TooMany, Unlaid

MAX_CELLS = 400


def covered_cells(size, bars):
    """The dict from the cells to the bars that cover them, or None if the bars are no floor of the size."""
    # Sides may have thirty figures: no cell is looked at before the limit holds.
    if not is_size(size) or size[0] * size[1] > MAX_CELLS:
        return None
    width, height, length = size
    bar_of = {}
    for bar in bars:
        if not is_bar(bar) or not lies_within(size, bar):
            return None
        for cell in cells_of(bar, length):
            if cell in bar_of:
                return None
            bar_of[cell] = bar
    if len(bar_of) != width * height:
        return None
    return bar_of


class Floor:
    """A floor of at most 400 cells, which never changes."""

    def __init__(self, size, *bars):
        bar_of = covered_cells(size, bars)
        if bar_of is None:
            raise InvalidFloor("the bars do not cover each cell of a size of at most 400 cells just once")
        self._size = size
        self._bars = tuple(sorted(bars))
        self._bar_of = bar_of

    @classmethod
    def of(cls, size, bars):
        """The floor of a size with the bars of a tuple."""
        if not isinstance(bars, tuple):
            raise InvalidFloor("the bars are no tuple")
        return cls(size, *bars)

    @classmethod
    def plain(cls, size):
        """The floor with all bars across, or, if the length does not divide the width, all down."""
        if not is_size(size):
            raise InvalidSize("this is no size")
        if not can_hold_floor(size):
            raise Unlaid(size)
        if size[0] * size[1] > MAX_CELLS:
            raise TooMany(MAX_CELLS)
        return cls.of(size, plain_bars(size))

    @property
    def size(self):
        """The tuple of width, height and length."""
        return self._size

    @property
    def width(self):
        """The number of the columns."""
        return self._size[0]

    @property
    def height(self):
        """The number of the rows."""
        return self._size[1]

    @property
    def length(self):
        """The number of the cells of each bar."""
        return self._size[2]

    @property
    def bars(self):
        """The ascending tuple of the bars."""
        return self._bars

    def bar_at(self, x, y):
        """The bar that covers the cell (x, y)."""
        if not is_index(x, self.width):
            raise InvalidNumber(x)
        if not is_index(y, self.height):
            raise InvalidNumber(y)
        return self._bar_of[(x, y)]

    def exchanged(self):
        """The floor in which the cell (x, y) takes the place of (y, x)."""
        width, height, length = self._size
        bars = [(y, x, other_way(way)) for x, y, way in self._bars]
        return Floor.of((height, width, length), tuple(bars))

    def mirrored(self):
        """The floor with left and right exchanged."""
        width, _, length = self._size
        bars = []
        for x, y, way in self._bars:
            # The first cell is the leftmost one, so the last cell of a bar becomes its first.
            last = x + length - 1 if way == ACROSS else x
            bars.append((width - 1 - last, y, way))
        return Floor.of(self._size, tuple(bars))

    def how_many(self, way):
        """The number of the bars of a way."""
        if not is_way(way):
            raise InvalidOperation("this is no way of bars")
        return len([bar for bar in self._bars if bar[2] == way])

    def __len__(self):
        return len(self._bars)

    def __contains__(self, value):
        # True equals 1 for Python, but (True, 0, "across") is no bar.
        return is_bar(value) and value in self._bars

    def __eq__(self, other):
        return isinstance(other, Floor) and self._size == other._size and self._bars == other._bars

    def __str__(self):
        return f"floor of {self.width} by {self.height} cells, {len(self._bars)} bars"
