"""Floors and plans as texts, and texts as floors and plans."""

from bondfloors.base.bars import ACROSS, cells_of, is_way
from bondfloors.base.floors import Floor
from bondfloors.errors import InvalidFloor, InvalidPlan, ParseError
from bondfloors.plans.plans import Plan

MAX_DIGITS = 40
DIGITS = "0123456789"
LETTERS = ">-v|"
WAY_OF = {">": "across", "v": "down"}


def is_number(word):
    """Whether the word is an integer without a sign and without leading zeros, of at most forty digits."""
    if not 1 <= len(word) <= MAX_DIGITS or not all([sign in DIGITS for sign in word]):
        return False
    return word == "0" or word[0] != "0"


def is_head(line, word):
    """Whether the line consists of the word and three integers."""
    words = line.split(" ")
    return len(words) == 4 and words[0] == word and all([is_number(part) for part in words[1:]])


def is_row(line):
    """Whether the line consists of letters of a row, at least one."""
    return len(line) > 0 and all([letter in LETTERS for letter in line])


def is_block_line(line):
    """Whether the line consists of four integers and a way."""
    words = line.split(" ")
    return len(words) == 5 and all([is_number(part) for part in words[:4]]) and is_way(words[4])


def formed_lines(text, word, is_formed):
    """The list of the lines of a text, each of which has the form of its place."""
    lines = text.split("\n")
    if not is_head(lines[0], word):
        raise ParseError(0)
    for at in range(1, len(lines)):
        if not is_formed(lines[at]):
            raise ParseError(at)
    return lines


def size_in(head):
    """The tuple of the three integers of a first line."""
    return tuple([int(part) for part in head.split(" ")[1:]])


def head_of(word, size):
    """The first line of a text."""
    return f"{word} {size[0]} {size[1]} {size[2]}"


def letters_of(bar, length):
    """The letters of the cells of the bar."""
    if bar[2] == ACROSS:
        return ">" + "-" * (length - 1)
    return "v" + "|" * (length - 1)


def write_floor(floor):
    """The text of the floor."""
    if not isinstance(floor, Floor):
        raise InvalidFloor("this is no floor")
    letter_of = {}
    for bar in floor.bars:
        for cell, letter in zip(cells_of(bar, floor.length), letters_of(bar, floor.length)):
            letter_of[cell] = letter
    rows = ["".join([letter_of[(x, y)] for x in range(floor.width)]) for y in range(floor.height)]
    return "\n".join([head_of("floor", floor.size), *rows])


def read_floor(text):
    """The floor of the text."""
    if not isinstance(text, str):
        raise InvalidFloor("this is no text")
    head, *rows = formed_lines(text, "floor", is_row)
    bars = [
        (x, y, WAY_OF[letter])
        for y, row in enumerate(rows)
        for x, letter in enumerate(row)
        if letter in WAY_OF
    ]
    floor = Floor.of(size_in(head), tuple(bars))
    # The bars come from the first letters alone: the others, and the rows' lengths, are judged here.
    if write_floor(floor) != text:
        raise InvalidFloor("this is not the text of a floor")
    return floor


def write_plan(plan):
    """The text of the plan."""
    if not isinstance(plan, Plan):
        raise InvalidPlan("this is no plan")
    lines = [f"{x} {y} {width} {height} {way}" for x, y, width, height, way in plan.blocks]
    return "\n".join([head_of("plan", plan.size), *lines])


def block_in(line):
    """The block of a line of four integers and a way."""
    words = line.split(" ")
    x, y, width, height = [int(word) for word in words[:4]]
    return (x, y, width, height, words[4])


def read_plan(text):
    """The plan of the text."""
    if not isinstance(text, str):
        raise InvalidPlan("this is no text")
    head, *lines = formed_lines(text, "plan", is_block_line)
    plan = Plan.of(size_in(head), tuple([block_in(line) for line in lines]))
    # A plan takes its blocks in any order, its text has them ascending.
    if write_plan(plan) != text:
        raise InvalidPlan("this is not the text of a plan")
    return plan
