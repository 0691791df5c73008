"""Promises about sizes: their forms, and whether they are kept."""

from bondfloors.base.values import is_whole
from bondfloors.base.words import is_size
from bondfloors.plans.fewest import fewest_seams
from bondfloors.sizes.verdicts import can_be_laid, has_bond

LAID = "laid"
BOND = "bond"
SEAMS = "seams"
BARS = "bars"
WITHIN = "within"


def is_promise(terms):
    """Whether the tuple has the form of a promise."""
    if len(terms) == 1:
        return terms[0] in (LAID, BOND)
    if len(terms) != 2:
        return False
    word, term = terms
    if word == WITHIN:
        return is_size(term)
    return word in (SEAMS, BARS) and is_whole(term) and term >= 0


def lies_in(size, limit):
    """Whether no side is greater than in the other size, and the length is the same."""
    return size[0] <= limit[0] and size[1] <= limit[1] and size[2] == limit[2]


def is_kept(size, promise):
    """Whether the promise is true of the size."""
    word = promise[0]
    if word == WITHIN:
        return lies_in(size, promise[1])
    if word == BOND:
        return has_bond(size)
    if word == LAID or not can_be_laid(size):
        return can_be_laid(size)
    width, height, length = size
    many = fewest_seams(size) if word == SEAMS else width * height // length
    return many <= promise[1]
