"""Whether sizes can be laid and have bonds, and reasons against bonds. Sides and lengths may have thirty figures."""

from bondfloors.base.bars import can_hold_floor
from bondfloors.base.values import is_index
from bondfloors.base.words import is_size
from bondfloors.errors import InvalidNumber, InvalidSize, Unlaid

# The one size that can be laid and is broad and high enough, and yet has no bond.
WITHOUT_BOND = (6, 6, 2)


def can_be_laid(size):
    """Whether there is a floor of the size."""
    if not is_size(size):
        raise InvalidSize("this is no size")
    return can_hold_floor(size)


def pairs_with_sum(width, height, total):
    """The number of the pairs x + y = total with 0 <= x < width and 0 <= y < height."""
    return max(0, min(width - 1, total) - max(0, total - height + 1) + 1)


def weight(size, number):
    """The number of the cells (x, y) for which x + y, divided by the length, leaves this number."""
    if not is_size(size):
        raise InvalidSize("this is no size")
    width, height, length = size
    if not is_index(number, length):
        raise InvalidNumber(number)
    # Any `length` cells of a row or a column have all remainders once: what counts else is the corner that is left.
    broad, high = width % length, height % length
    even = (width * height - broad * high) // length
    return even + pairs_with_sum(broad, high, number) + pairs_with_sum(broad, high, number + length)


def is_one_bar(size):
    """Whether the floor of the size is one bar."""
    width, height, length = size
    return (width, height) in ((length, 1), (1, length))


def is_narrow(size):
    """Whether a side of the size is too small for a bond."""
    width, height, length = size
    return min(width, height) <= 2 * length and not is_one_bar(size)


def has_bond(size):
    """Whether there is a bond of the size."""
    return can_be_laid(size) and not is_narrow(size) and size != WITHOUT_BOND


def need_along(side, other, length):
    """The sum of the needs of the lines that cut this side in two."""
    many = side - 1
    even = many // length
    return even * length + (many - even) * (other % length or length)


def total_need(size):
    """The sum of the needs of all lines."""
    if not can_be_laid(size):
        raise Unlaid(size)
    width, height, length = size
    return need_along(width, height, length) + need_along(height, width, length)


def total_crossings(size):
    """The sum of the crossings of all lines, in each floor of the size."""
    if not can_be_laid(size):
        raise Unlaid(size)
    width, height, length = size
    return (length - 1) * (width * height // length)


def is_few(size):
    """Whether the size can be laid, but with too few bars to cross all lines."""
    return can_hold_floor(size) and total_need(size) > total_crossings(size)


def reason(size):
    """A reason against a bond of the size, or None if there is a bond."""
    if has_bond(size):
        return None
    if is_narrow(size):
        return ("narrow",)
    if can_hold_floor(size):
        return ("few",)
    # Where the corner that whole bars leave is not higher than broad (else exchange both): each of its rows y, with
    # the remainders from y to y + broad - 1, has the number broad - 1; but the first one has not the number broad.
    width, height, length = size
    greater = max(width % length, height % length)
    return ("weights", greater, greater - 1)


def weights_differ(size, one, other):
    """Whether these are two numbers of unlike weights."""
    length = size[2]
    return is_index(one, length) and is_index(other, length) and weight(size, one) != weight(size, other)


def is_reason(size, value):
    """Whether the value is a reason against a bond of the size."""
    if not is_size(size):
        raise InvalidSize("this is no size")
    if not isinstance(value, tuple):
        return False
    if value == ("narrow",):
        return is_narrow(size)
    if value == ("few",):
        return is_few(size)
    return len(value) == 3 and value[0] == "weights" and weights_differ(size, value[1], value[2])
