"""All floors of a size of few cells: how many there are, their order, and how many of them are bonds."""

from bondfloors.among.boards import Board
from bondfloors.among.firsts import first_bond_bars
from bondfloors.base.floors import Floor
from bondfloors.base.values import is_whole
from bondfloors.base.words import is_size
from bondfloors.errors import InvalidFloor, InvalidNumber, InvalidSize, TooMany

MAX_COUNTED = 64


def check_counted(size):
    """Raises the errors of what is no size, or has too many cells to be counted."""
    if not is_size(size):
        raise InvalidSize("this is no size")
    if size[0] * size[1] > MAX_COUNTED:
        raise TooMany(MAX_COUNTED)


def many_floors(size):
    """The number of all floors of the size."""
    check_counted(size)
    return Board(size).many_ways(0)


def partings(total):
    """The list of the tuples of numbers from 1 on that have this sum."""
    if total == 0:
        return [()]
    return [(first, *rest) for first in range(1, total + 1) for rest in partings(total - first)]


def without_upright_seams(many):
    """How many floors of the last width have no upright seams, where many[w] have the width w, seams or not."""
    whole = [0]
    for width in range(1, len(many)):
        # The others have a first upright seam, and any floor behind it.
        seamed = sum([whole[at] * many[width - at] for at in range(1, width)])
        whole.append(many[width] - seamed)
    return whole[-1]


def product_of(numbers):
    """The product of the numbers."""
    product = 1
    for number in numbers:
        product = product * number
    return product


def many_bonds(size):
    """The number of the bonds of the size."""
    check_counted(size)
    length = size[2]
    # The lesser side is parted, for there are fewer ways to do so.
    low, broad = min(size[:2]), max(size[:2])
    floors_of = [[many_floors((w, h, length)) if w * h > 0 else 0 for w in range(broad + 1)] for h in range(low + 1)]
    found = 0
    for heights in partings(low):
        seamed = [product_of([floors_of[h][w] for h in heights]) for w in range(broad + 1)]
        sign = 1 if len(heights) % 2 == 1 else -1
        found = found + sign * without_upright_seams(seamed)
    return found


def nth_bars(board, number):
    """The list of the bars of the floor with the number, or None if there are not so many floors."""
    filled, bars, left = 0, [], number
    while filled != board.full:
        for bar, mask in board.fitting(filled):
            many = board.many_ways(filled | mask)
            if left < many:
                bars.append(bar)
                filled = filled | mask
                break
            left = left - many
        else:
            return None
    return bars


def nth_floor(size, number):
    """The floor with the number in the order of all floors of the size."""
    if not is_size(size):
        raise InvalidSize("this is no size")
    if not is_whole(number) or number < 0:
        raise InvalidNumber(number)
    check_counted(size)
    bars = nth_bars(Board(size), number)
    if bars is None:
        raise InvalidNumber(number)
    return Floor.of(size, tuple(bars))


def number_of(floor):
    """The number of the floor in the order of all floors of its size."""
    if not isinstance(floor, Floor):
        raise InvalidFloor("this is no floor")
    check_counted(floor.size)
    board = Board(floor.size)
    filled, number = 0, 0
    while filled != board.full:
        for bar, mask in board.fitting(filled):
            if bar in floor:
                filled = filled | mask
                break
            number = number + board.many_ways(filled | mask)
    return number


class Floors:
    """All floors of a size, which never change."""

    def __init__(self, size):
        self._total = many_floors(size)
        self._bonds = many_bonds(size)
        self._size = size

    @property
    def size(self):
        """The size of the floors."""
        return self._size

    @property
    def total(self):
        """The number of all floors."""
        return self._total

    @property
    def bonds(self):
        """The number of the bonds."""
        return self._bonds

    def nth(self, number):
        """The floor with the number."""
        return nth_floor(self._size, number)

    def number(self, floor):
        """The number of the floor."""
        if floor not in self:
            raise InvalidFloor("this is none of the floors")
        return number_of(floor)

    def walk(self):
        """Makes all floors, one by one, in their order."""
        board = Board(self._size)
        todo = [(0, ())] if self._total > 0 else []
        while len(todo) > 0:
            filled, bars = todo.pop()
            if filled == board.full:
                yield Floor.of(self._size, bars)
            else:
                steps = board.fitting(filled)
                # What is in todo can be finished, so only where two bars fit one of them may lead to nothing.
                if len(steps) > 1:
                    steps = [(bar, mask) for bar, mask in steps if board.filling(filled | mask) is not None]
                todo.extend([(filled | mask, (*bars, bar)) for bar, mask in steps[::-1]])

    def first_bond(self):
        """The first bond, or None."""
        bars = first_bond_bars(self._size) if self._bonds > 0 else None
        return None if bars is None else Floor.of(self._size, bars)

    def __contains__(self, value):
        return isinstance(value, Floor) and value.size == self._size

    def __eq__(self, other):
        return isinstance(other, Floors) and self._size == other._size

    def __str__(self):
        return f"{self._total} floors, {self._bonds} bonds"
