"""Stage 12: parts of floors."""

import unittest

from bondfloors.among import parts as module
from bondfloors.among.counts import many_floors
from bondfloors.among.parts import finished, free_cells, is_part, many_finished, sure_bars
from bondfloors.base.floors import Floor
from bondfloors.errors import InvalidOperation, InvalidSize, TooMany
from bondfloors.plans.plans import Plan
from tests.drawn import Numbers, drawn_floor, every_floor
from tests.helper import BIG, FIVE_BARS, FORTY, cells, five, odd_values

FIVE = five()
DOWN = (0, 0, "down")
CALLS = (many_finished, finished, sure_bars, free_cells)
SIZES = (
    (4, 2, 2), (3, 2, 2), (4, 4, 2), (5, 4, 2), (6, 5, 2), (5, 6, 2), (6, 3, 3), (6, 6, 3), (7, 6, 3), (8, 4, 4), (9, 5, 3),
    (2, 1, 2), (1, 4, 2), (3, 3, 2), (1, 1, 2), (12, 2, 2), (2, 12, 2), (5, 5, 5), (7, 5, 3),
)
# No parts of (6, 5, 2), and of no greater size with the same length either.
NO_PARTS = odd_values() + [
    0, 1, "across", FIVE, FIVE_BARS + ((0, 0, "across"),), [DOWN], [], {DOWN: True}, DOWN, ((DOWN,),), (DOWN, DOWN), (DOWN, None),
    (None,), (DOWN, ()), ((0, 0),), ((0, 0, "down", 1),), ([0, 0, "down"],), ((0, 0, "Down"),), ((0, 0, "up"),), ((0, 0, None),),
    ((False, 0, "down"),), ((0, False, "down"),), ((True, 0, "down"),), ((0, 0, ["down"]),), (("0", 0, "down"),), (((0,), 0, "down"),),
    ((-1, 0, "down"),), ((0, -1, "down"),), ((-1, 0, "across"),), ((FORTY, 0, "across"),), ((0, -FORTY, "across"),),
    ((1, 0, "down"), DOWN), ((0, 2, "down"), DOWN), ((0, 0, "down"), (0, 0, "across")), ((0, 0, "across"), (0, 0, "down")),
    (DOWN, (0, 1, "across")), (DOWN, (0, 1, "down")), ((0, 0, "across"), (1, 0, "across")), ((0, 0, "across"), (1, 0, "down")),
    ((0, 1, "across"), (1, 0, "down")), (FIVE,), (DOWN, FIVE), FIVE_BARS[::-1], FIVE_BARS[:3] + FIVE_BARS[2:], ((0, 0, FIVE),),
]
NO_SIZES = odd_values() + [0, 6, (6, 5, 1), (0, 5, 2), (6, 0, 2), [6, 5, 2], (BIG + 1, 5, 2), FIVE, "6 5 2"]
NO_SIZES = [value for value in NO_SIZES if value != (6, 5, 2)]


def every_bar(size):
    width, height, length = size
    return [(x, y, way) for x in range(width) for y in range(height) for way in ("across", "down")
            if (x + length <= width if way == "across" else y + length <= height)]


def apart(bars, length):
    """Whether no cell is covered twice."""
    covered = [cell for bar in bars for cell in cells(bar, length)]
    return len(covered) == len(set(covered))


def drawn_parts(numbers, size, many):
    """Parts of floors, and parts that are drawn bar by bar, many of which no floor finishes."""
    width, height, length = size
    found = [()]
    bars = every_bar(size)
    for _ in range(many if bars else 0):
        part = []
        for _ in range(1 + numbers.below(max(1, width * height // length // 2 + 1))):
            bar = bars[numbers.below(len(bars))]
            if apart(part + [bar], length):
                part.append(bar)
        found.append(tuple(sorted(part)))
    if width % length == 0 or height % length == 0:
        for _ in range(many):
            floor = drawn_floor(numbers, size, 30)
            found.append(tuple(bar for bar in floor.bars if numbers.below(3) == 0))
            found.append(tuple(bar for bar in floor.bars if numbers.below(7) != 0))
        found.append(floor.bars)
    return found


class Parts(unittest.TestCase):
    def test_by_hand(self):
        for part in ((), (DOWN,), FIVE_BARS, FIVE_BARS[:7], FIVE_BARS[::2], ((0, 0, "across"),), ((4, 4, "across"), (5, 2, "down")),
                     ((5, 3, "down"),), ((0, 0, "down"), (1, 0, "across"), (1, 1, "across")), ((0, 3, "down"), (1, 4, "across"))):
            with self.subTest(part=part):
                self.assertIs(is_part((6, 5, 2), part), True)

    def test_pairs_of_bars(self):
        for size in ((4, 4, 2), (5, 4, 3), (3, 3, 3), (2, 5, 4)):
            bars = every_bar(size)
            for one in bars:
                self.assertIs(is_part(size, (one,)), True)
                for other in bars:
                    with self.subTest(one=one, other=other):
                        self.assertIs(is_part(size, (one, other)), one < other and apart([one, other], size[2]))

    def test_bars_over_the_edge(self):
        for size in ((4, 4, 2), (5, 4, 3), (3, 3, 3), (2, 5, 4), (1, 1, 2), (2, 2, 5)):
            within = every_bar(size)
            for x in range(-2, 7):
                for y in range(-2, 7):
                    for way in ("across", "down"):
                        self.assertIs(is_part(size, ((x, y, way),)), (x, y, way) in within)

    def test_what_is_no_part(self):
        for value in NO_PARTS:
            if value == ():
                continue
            for size in ((6, 5, 2), (8, 8, 2), (20, 20, 2), (BIG, BIG, 2)):
                with self.subTest(size=size, value=value):
                    self.assertIs(is_part(size, value), False)
            for call in CALLS:
                # Also in a size that has too many cells.
                for size in ((6, 5, 2), (20, 20, 2), (BIG, BIG, 2)):
                    with self.subTest(call=call.__name__, value=value), self.assertRaises(InvalidOperation):
                        call(size, value)

    def test_the_empty_tuple_is_a_part(self):
        for size in SIZES + ((20, 20, 2), (BIG, BIG, BIG), (1, 1, BIG)):
            self.assertIs(is_part(size, ()), True)

    def test_parts_of_other_sizes(self):
        self.assertIs(is_part((5, 5, 2), FIVE_BARS), False)
        self.assertIs(is_part((6, 4, 2), FIVE_BARS), False)
        self.assertIs(is_part((7, 6, 2), FIVE_BARS), True)
        self.assertIs(is_part((6, 5, 3), FIVE_BARS), False)

    def test_great_sizes(self):
        half = BIG // 2
        size = (BIG, BIG, half)
        for part, known in (
            (((0, 0, "across"), (half, 0, "across")), True), (((0, 0, "across"), (half - 1, 0, "across")), False),
            (((0, 0, "across"), (half, 0, "down")), True), (((0, 0, "across"), (half - 1, 0, "down")), False),
            (((0, half, "across"), (half - 1, 0, "down")), True), (((0, half - 1, "across"), (half - 1, 0, "down")), False),
            (((0, 0, "down"), (0, half, "down")), True), (((0, 0, "down"), (0, half - 1, "down")), False),
            (((half + 1, 0, "across"),), False), (((half, 0, "across"),), True), (((0, half + 1, "down"),), False),
            (((BIG - 1, half, "down"),), True), (((BIG, half, "down"),), False), (((0, BIG - 1, "across"), (1, BIG - 2, "across")), True),
        ):
            with self.subTest(part=part):
                self.assertIs(is_part(size, part), known)
                for call in CALLS:
                    self.assertRaises(TooMany if known else InvalidOperation, call, size, part)

    def test_many_bars(self):
        rows = Floor.plain((20, 20, 2)).bars
        self.assertIs(is_part((20, 20, 2), rows), True)
        self.assertIs(is_part((BIG, BIG, 2), rows), True)
        self.assertIs(is_part((20, 20, 2), rows + ((19, 18, "down"),)), False)

    def test_what_is_no_size(self):
        for size in NO_SIZES:
            for value in ((), (DOWN,), None, [DOWN], (None,)):
                for call in (is_part,) + CALLS:
                    with self.subTest(size=size, value=value), self.assertRaises(InvalidSize):
                        call(size, value)

    def test_more_than_64_cells(self):
        for size in ((65, 1, 5), (1, 65, 5), (9, 8, 2), (20, 20, 2), (11, 6, 2), (BIG, BIG, 2), (2, BIG, 2), (9, 9, 2)):
            for part in ((), ((0, 0, "across"),), ((0, 0, "down"),)):
                if is_part(size, part):
                    for call in CALLS:
                        with self.subTest(size=size, part=part), self.assertRaises(TooMany) as raised:
                            call(size, part)
                        self.assertEqual(raised.exception.limit, 64)


class Finished(unittest.TestCase):
    def judged(self, size, part, floors):
        """Compares all answers with the floors, as frozensets of bars, that have all bars of the part."""
        found = [bars for bars in floors if bars.issuperset(part)]
        self.assertIs(is_part(size, part), True)
        self.assertEqual(many_finished(size, part), len(found))
        floor = finished(size, part)
        if found:
            self.assertIsInstance(floor, Floor)
            self.assertEqual(floor.size, size)
            self.assertIn(frozenset(floor.bars), found)
        else:
            self.assertIsNone(floor)
        sure = frozenset.intersection(*found) if found else frozenset()
        self.assertEqual(sure_bars(size, part), tuple(sorted(sure)))
        covered = {cell for bar in sure.union(part) for cell in cells(bar, size[2])}
        every = [(x, y) for x in range(size[0]) for y in range(size[1])]
        self.assertEqual(free_cells(size, part), tuple(cell for cell in every if cell not in covered))

    def test_drawn_parts_against_all_floors(self):
        numbers = Numbers(61)
        kinds = [0, 0]
        for size in SIZES:
            floors = [frozenset(bars) for bars in every_floor(size)]
            for part in drawn_parts(numbers, size, 12):
                with self.subTest(size=size, part=part):
                    self.judged(size, part, floors)
                    kinds[any(bars.issuperset(part) for bars in floors)] += 1
        # Both parts that are finished and parts that no floor finishes have been drawn.
        self.assertGreater(min(kinds), 50)

    def test_all_parts_of_a_size(self):
        for size in ((3, 2, 2), (4, 2, 2), (3, 3, 3), (4, 3, 3), (3, 3, 2)):
            floors = [frozenset(bars) for bars in every_floor(size)]
            bars = every_bar(size)
            todo = [((), 0)]
            while todo:
                part, at = todo.pop()
                self.judged(size, tuple(sorted(part)), floors)
                for k in range(at, len(bars)):
                    if apart(part + (bars[k],), size[2]):
                        todo.append((part + (bars[k],), k + 1))

    def test_the_empty_part(self):
        for size in SIZES:
            self.assertEqual(many_finished(size, ()), many_floors(size))
        self.assertEqual(sure_bars((4, 2, 2), ()), ())
        self.assertEqual(sure_bars((2, 1, 2), ()), ((0, 0, "across"),))
        self.assertEqual(free_cells((2, 1, 2), ()), ())
        self.assertEqual(sure_bars((6, 1, 3), ()), ((0, 0, "across"), (3, 0, "across")))
        self.assertEqual(free_cells((2, 2, 2), ()), ((0, 0), (0, 1), (1, 0), (1, 1)))
        # Nothing is sure where there is no floor at all.
        self.assertEqual([many_finished((3, 1, 2), ()), finished((3, 1, 2), ()), sure_bars((3, 1, 2), ())], [0, None, ()])
        self.assertEqual(free_cells((3, 1, 2), ()), ((0, 0), (1, 0), (2, 0)))

    def test_a_whole_floor(self):
        numbers = Numbers(62)
        for size in ((6, 5, 2), (8, 8, 2), (9, 7, 3), (8, 8, 4), (2, 1, 2), (1, 64, 64)):
            floor = drawn_floor(numbers, size)
            self.assertEqual(many_finished(size, floor.bars), 1)
            self.assertEqual(finished(size, floor.bars), floor)
            self.assertEqual([sure_bars(size, floor.bars), free_cells(size, floor.bars)], [floor.bars, ()])

    def test_parts_that_no_floor_finishes(self):
        corner = ((0, 1, "across"), (1, 0, "across"))
        for size, part in (
            ((3, 2, 2), ((0, 0, "across"), (1, 1, "across"))), ((8, 8, 2), corner), ((9, 7, 3), corner), ((6, 6, 3), corner),
            ((3, 3, 2), ((0, 0, "across"),)), ((7, 7, 3), ((0, 0, "across"),)), ((8, 8, 3), ()), ((6, 1, 2), ((1, 0, "across"),)),
            ((1, 6, 3), ((0, 2, "down"),)), ((2, 2, 5), ()),
        ):
            with self.subTest(size=size, part=part):
                self.assertEqual([many_finished(size, part), finished(size, part), sure_bars(size, part)], [0, None, ()])
                covered = [cell for bar in part for cell in cells(bar, size[2])]
                self.assertEqual(free_cells(size, part), tuple(
                    (x, y) for x in range(size[0]) for y in range(size[1]) if (x, y) not in covered))

    def test_sizes_of_64_cells(self):
        numbers = Numbers(63)
        for size in ((8, 8, 2), (10, 6, 2), (6, 10, 2), (16, 4, 2), (9, 7, 3), (7, 9, 3), (8, 8, 4), (32, 2, 2), (2, 32, 2), (12, 5, 2)):
            for _ in range(3):
                floor = drawn_floor(numbers, size)
                part = tuple(bar for bar in floor.bars if numbers.below(3) == 0)
                many = many_finished(size, part)
                other = finished(size, part)
                self.assertLessEqual(set(part), set(other.bars))
                sure = sure_bars(size, part)
                self.assertLessEqual(set(part), set(sure))
                self.assertLessEqual(set(sure), set(floor.bars))
                self.assertLessEqual(set(sure), set(other.bars))
                # With any one bar, and without it, there are as many floors as at all.
                for x, y in free_cells(size, part):
                    here = [bar for bar in every_bar(size) if (x, y) in cells(bar, size[2])]
                    counts = [many_finished(size, tuple(sorted(part + (bar,)))) for bar in here if apart(part + (bar,), size[2])]
                    self.assertEqual(sum(counts), many)
                    self.assertLess(max(counts), many)
                self.assertEqual(many_finished(size, sure), many)
                self.assertEqual(many_finished((size[1], size[0], size[2]), exchanged(part)), many)

    def test_parts_stay_and_equal_calls_return_equal_results(self):
        for _ in range(2):
            self.assertEqual([many_finished((4, 2, 2), (DOWN,)), sure_bars((4, 2, 2), (DOWN,)), free_cells((4, 2, 2), (DOWN,))],
                             [3, (DOWN,), tuple((x, y) for x in (1, 2, 3) for y in (0, 1))])
            self.assertEqual(finished((6, 5, 2), FIVE_BARS[:9]), finished((6, 5, 2), FIVE_BARS[:9]))
        value = [DOWN]
        self.assertRaises(InvalidOperation, many_finished, (4, 2, 2), value)
        self.assertEqual(value, [DOWN])

    def test_plans_and_floors_are_no_parts(self):
        for value in (FIVE, Plan((6, 5, 2), (0, 0, 6, 5, "across"))):
            self.assertIs(is_part((6, 5, 2), value), False)

    def test_defined_in_this_module(self):
        for name in ("is_part", "many_finished", "finished", "sure_bars", "free_cells"):
            self.assertEqual(getattr(module, name).__module__, "bondfloors.among.parts")

    def test_examples(self):
        self.assertEqual(
            [many_finished((4, 2, 2), (DOWN,)), sure_bars((4, 2, 2), (DOWN, (1, 0, "across"))),
             free_cells((4, 2, 2), (DOWN, (3, 0, "down"))), finished((3, 2, 2), ((1, 0, "across"), (1, 1, "across"))).bars],
            [3, ((0, 0, "down"), (1, 0, "across"), (1, 1, "across"), (3, 0, "down")), ((1, 0), (1, 1), (2, 0), (2, 1)),
             ((0, 0, "down"), (1, 0, "across"), (1, 1, "across"))],
        )
        self.assertEqual(
            [many_finished((3, 2, 2), ((0, 0, "across"), (1, 1, "across"))), finished((3, 2, 2), ((0, 0, "across"), (1, 1, "across"))),
             is_part((4, 2, 2), ((0, 0, "down"), (0, 1, "across")))],
            [0, None, False],
        )


def exchanged(part):
    """The part of the exchanged size."""
    return tuple(sorted((y, x, {"across": "down", "down": "across"}[way]) for x, y, way in part))


if __name__ == "__main__":
    unittest.main()
