"""Names and sizes."""

from bondfloors.base.values import is_whole

MAX_SIDE = 10 ** 30
MAX_LETTERS = 8
LETTERS = "abcdefghijklmnopqrstuvwxyz"


def is_name(value):
    """Whether the value is a string of one to eight letters a to z."""
    if not isinstance(value, str) or not 1 <= len(value) <= MAX_LETTERS:
        return False
    return all([letter in LETTERS for letter in value])


def is_size(value):
    """Whether the value is a tuple (width, height, length) of integers within the limits."""
    if not isinstance(value, tuple) or len(value) != 3:
        return False
    if not all([is_whole(item) for item in value]):
        return False
    width, height, length = value
    return 1 <= width <= MAX_SIDE and 1 <= height <= MAX_SIDE and 2 <= length <= MAX_SIDE
