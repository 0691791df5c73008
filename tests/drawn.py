"""Floors and plans that are drawn by numbers of the tests' own, and counts that are made apart from the package."""

from bondfloors.base.floors import Floor
from bondfloors.plans.plans import Plan
from tests.helper import cells

OTHER = {"across": "down", "down": "across"}


class Numbers:
    """The same numbers in each run."""

    def __init__(self, seed):
        self.state = seed

    def below(self, many):
        self.state = (self.state * 6364136223846793005 + 1442695040888963407) % 2 ** 64
        high = self.state >> 20
        self.state = (self.state * 6364136223846793005 + 1442695040888963407) % 2 ** 64
        return (high * 2 ** 80 + self.state * 2 ** 40 + high) % many


def square(x, y, length, way):
    """The bars of one way of the square with the first cell (x, y)."""
    if way == "across":
        return [(x, y + k, way) for k in range(length)]
    return [(x + k, y, way) for k in range(length)]


def drawn_floor(numbers, size, turns=300):
    """A floor that comes from the plain one by as many tries to turn a square."""
    width, height, length = size
    bars = set(Floor.plain(size).bars)
    for _ in range(turns if width >= length and height >= length else 0):
        x, y = numbers.below(width - length + 1), numbers.below(height - length + 1)
        for way in ("across", "down"):
            here = square(x, y, length, way)
            if bars.issuperset(here):
                bars.difference_update(here)
                bars.update(square(x, y, length, OTHER[way]))
                break
    return Floor(size, *bars)


def drawn_blocks(numbers, place, length, depth):
    """The blocks of a rectangle, one side of which is a multiple of the length."""
    x, y, width, height = place
    ways = [way for way, side in (("across", width), ("down", height)) if side % length == 0]
    if depth == 0 or numbers.below(5) == 0:
        return [place + (ways[numbers.below(len(ways))],)]
    if "across" in ways and (numbers.below(2) == 0 or ways == ["across"]):
        if height == 1:
            return [place + ("across",)]
        part = 1 + numbers.below(height - 1)
        places = (x, y, width, part), (x, y + part, width, height - part)
    else:
        if width == 1:
            return [place + ("down",)]
        part = 1 + numbers.below(width - 1)
        places = (x, y, part, height), (x + part, y, width - part, height)
    return [block for part in places for block in drawn_blocks(numbers, part, length, depth - 1)]


def drawn_plan(numbers, size, depth=4):
    """A plan that comes from cutting the size in two, and each part again, depth times at most."""
    width, height, length = size
    return Plan(size, *drawn_blocks(numbers, (0, 0, width, height), length, depth))


def merged_plan(numbers, floor):
    """The plan that comes from putting bars of a floor together, or None if more than 64 blocks are left."""
    width, height, length = floor.size
    blocks = {(x, y): (length, 1, way) if way == "across" else (1, length, way) for x, y, way in floor.bars}
    for _ in range(6 * len(floor)):
        places = sorted(blocks)
        x, y = places[numbers.below(len(places))]
        wide, high, way = blocks[x, y]
        beside, below = blocks.get((x + wide, y)), blocks.get((x, y + high))
        if beside is not None and beside[1:] == (high, way):
            blocks[x, y] = (wide + beside[0], high, way)
            del blocks[x + wide, y]
        elif below is not None and (below[0], below[2]) == (wide, way):
            blocks[x, y] = (wide, high + below[1], way)
            del blocks[x, y + high]
    if len(blocks) > 64:
        return None
    return Plan(floor.size, *[(x, y) + block for (x, y), block in blocks.items()])


def every_floor(size):
    """The rows of bars of all floors of a size, made by filling the first free cell in each way."""
    width, height, length = size
    todo = [((), 0)]
    while todo:
        bars, filled = todo.pop()
        at = 0
        while filled >> at & 1:
            at += 1
        if at == width * height:
            yield bars
            continue
        y, x = divmod(at, width)
        for way, step, fits in (("across", 1, x + length <= width), ("down", width, y + length <= height)):
            mask = sum(1 << at + k * step for k in range(length))
            if fits and not filled & mask:
                todo.append((bars + ((x, y, way),), filled | mask))


def seams_counted(size, bars):
    """The number of the lines that no bar crosses, bar by bar."""
    width, height, length = size
    crossed = set()
    for x, y, way in bars:
        first = x if way == "across" else y
        crossed.update((way, c) for c in range(first + 1, first + length))
    return width - 1 + height - 1 - len(crossed)


def lines_of(size):
    """All lines of the size, ascending."""
    width, height, _ = size
    return [("level", c) for c in range(1, height)] + [("upright", c) for c in range(1, width)]


def counted(floor, line):
    """The crossings of a line, cell by cell: where the cells on both sides are those of one bar."""
    width, height, length = floor.size
    bar_of = {cell: bar for bar in floor.bars for cell in cells(bar, length)}
    way, c = line
    if way == "upright":
        return sum(bar_of[c - 1, y] == bar_of[c, y] for y in range(height))
    return sum(bar_of[x, c - 1] == bar_of[x, c] for x in range(width))


def counted_in_plan(plan, line):
    """The crossings of a line, bar by bar of each block that reaches over it."""
    length = plan.size[2]
    way, c = line
    found = 0
    for x, y, width, height, laid in plan.blocks:
        first, along, beside = (x, width, height) if way == "upright" else (y, height, width)
        if laid == ("across" if way == "upright" else "down"):
            for begin in range(first, first + along, length):
                if begin < c < begin + length:
                    found += beside
    return found


# Sizes that can be laid, with either side divided by the length, with none longer than needed for many shapes.
DRAWN_SIZES = (
    (6, 5, 2), (5, 6, 2), (8, 8, 2), (7, 8, 2), (9, 7, 3), (7, 9, 3), (6, 6, 3), (8, 3, 4), (13, 12, 4), (10, 11, 5),
    (12, 5, 6), (1, 8, 2), (8, 1, 2), (3, 2, 3), (1, 5, 5), (20, 20, 2), (20, 20, 5), (18, 22, 3), (40, 10, 4),
    (200, 2, 2), (2, 200, 2), (133, 3, 3), (400, 1, 100),
)
