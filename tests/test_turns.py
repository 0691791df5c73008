"""Stage 13: turnings, with [0.10], [0.17] and [0.18]."""

import unittest
from unittest import mock

from bondfloors.among import turns as module
from bondfloors.among.counts import many_floors
from bondfloors.among.turns import MAX_TURNINGS, is_turning_row, plain_row, turned, turned_along, turning_row, turnings
from bondfloors.base.floors import Floor
from bondfloors.errors import InvalidFloor, InvalidNumber, InvalidOperation, TooMany
from bondfloors.lines.crossings import is_bond, need, profile, remainder, seams
from bondfloors.plans.plans import Plan
from bondfloors.text.texts import write_floor
from tests.drawn import DRAWN_SIZES, Numbers, drawn_floor, drawn_plan, every_floor, lines_of, square
from tests.helper import BIG, FORTY, cells, five, floor_of, odd_values

FIVE = five()
HALF = Plan((4, 2, 2), (2, 0, 2, 2, "across"), (0, 0, 2, 2, "down"))
NO_FLOORS = [value for value in odd_values() if not isinstance(value, Floor)] + [
    0, 1, FIVE.size, FIVE.bars, str(FIVE), write_floor(FIVE), HALF, [FIVE], (FIVE,), {"floor": FIVE},
]
OTHER = {"across": "down", "down": "across"}
SMALL = ((4, 2, 2), (4, 4, 2), (5, 4, 2), (6, 3, 2), (3, 6, 2), (6, 5, 2), (5, 6, 2), (6, 3, 3), (6, 6, 3), (7, 6, 3), (6, 7, 3),
         (8, 4, 4), (8, 8, 4), (7, 8, 4), (9, 5, 3), (10, 6, 5), (12, 2, 2), (2, 12, 2), (2, 1, 2), (1, 3, 3), (6, 1, 2), (6, 2, 3))


def way_by_cells(floor, x, y):
    """The way of the bars that fill the square with the first cell (x, y), found cell by cell, or None."""
    width, height, length = floor.size
    if x + length > width or y + length > height:
        return None
    here = {(x + a, y + b) for a in range(length) for b in range(length)}
    bars = {floor.bar_at(a, b) for a, b in here}
    if any(not here.issuperset(cells(bar, length)) for bar in bars):
        return None
    ways = {way for _, _, way in bars}
    return ways.pop() if len(ways) == 1 else None


def turned_by_bars(floor, x, y):
    way = way_by_cells(floor, x, y)
    rest = set(floor.bars) - set(square(x, y, floor.length, way))
    return Floor(floor.size, *rest, *square(x, y, floor.length, OTHER[way]))


def walked(floor, row):
    """The floor behind the row, turning by turning, each of which has to be there at its time."""
    for x, y in row:
        if way_by_cells(floor, x, y) is None:
            raise AssertionError("no turning is there")
        floor = turned_by_bars(floor, x, y)
    return floor


def drawn(seed, many=2):
    numbers = Numbers(seed)
    found = [drawn_floor(numbers, size, turns) for size in DRAWN_SIZES for turns in (5, 300) for _ in range(many)]
    found += [drawn_plan(numbers, size).laid() for size in DRAWN_SIZES for _ in range(many)]
    return found


class Turnings(unittest.TestCase):
    def test_by_hand(self):
        self.assertEqual(turnings(FIVE), ((0, 2), (1, 0), (3, 3), (4, 1)))
        self.assertEqual(turnings(floor_of(2, (">-", ">-"))), ((0, 0),))
        self.assertEqual(turnings(floor_of(2, ("vvv", "|||"))), ((0, 0), (1, 0)))
        self.assertEqual(turnings(floor_of(2, (">->-", ">->-", ">->-"))), ((0, 0), (0, 1), (2, 0), (2, 1)))
        self.assertEqual(turnings(floor_of(2, ("v>-v", "|>-|"))), ((1, 0),))
        self.assertEqual(turnings(floor_of(3, ("v>--", "|>--", "|>--", ">--v", ">--|", ">--|"))), ((0, 3), (1, 0)))
        # At each edge.
        self.assertEqual(turnings(Floor.plain((6, 2, 2))), ((0, 0), (2, 0), (4, 0)))
        self.assertEqual(turnings(Floor.plain((2, 6, 2))), ((0, 0), (0, 1), (0, 2), (0, 3), (0, 4)))

    def test_floors_without_turnings(self):
        for size in ((2, 1, 2), (1, 2, 2), (3, 1, 3), (6, 2, 3), (2, 6, 3), (1, 400, 400), (400, 1, 2), (132, 2, 3), (4, 3, 4)):
            floor = Floor.plain(size)
            self.assertEqual([turnings(floor), plain_row(floor), turning_row(floor, floor)], [(), (), ()])
            self.assertIs(is_turning_row(floor, floor, ()), True)
            self.assertIs(is_turning_row(floor, floor, ((0, 0),)), False)
            self.assertRaises(InvalidOperation, turned, floor, 0, 0)

    def test_drawn_floors_cell_by_cell(self):
        for floor in drawn(71):
            width, height, _ = floor.size
            with self.subTest(size=floor.size, bars=floor.bars):
                found = turnings(floor)
                places = [(x, y) for x in range(width) for y in range(height) if way_by_cells(floor, x, y) is not None]
                self.assertEqual(found, tuple(places))

    def test_each_floor_of_great_enough_sides_has_a_turning(self):
        for size in SMALL:
            for bars in every_floor(size):
                self.assertIs(len(turnings(Floor(size, *bars))) > 0, min(size[:2]) >= size[2])

    def test_wrong_floors(self):
        for value in NO_FLOORS:
            for call in (turnings, plain_row, lambda value: turned(value, 0, 0), lambda value: turned(value, -1, None),
                         lambda value: turned_along(value, ()), lambda value: turned_along(value, None)):
                with self.subTest(value=value), self.assertRaises(InvalidFloor):
                    call(value)


class Turned(unittest.TestCase):
    def test_by_hand(self):
        self.assertEqual(write_floor(turned(FIVE, 1, 0)), "floor 6 5 2\nvvvv>-\n||||vv\nvv>-||\n||v>-v\n>-|>-|")
        self.assertEqual(turned(floor_of(2, (">-", ">-")), 0, 0), floor_of(2, ("vv", "||")))
        self.assertEqual(turned(floor_of(3, ("v>--", "|>--", "|>--")), 1, 0), Floor.plain((3, 4, 3)).exchanged())
        self.assertEqual(turned(floor_of(2, ("vvv", "|||")), 1, 0), floor_of(2, ("v>-", "|>-")))

    def test_drawn_floors(self):
        for floor in drawn(72, 1):
            length = floor.length
            for x, y in turnings(floor)[:8]:
                with self.subTest(size=floor.size, x=x, y=y):
                    other = turned(floor, x, y)
                    self.assertEqual([other.size, other.bars], [floor.size, turned_by_bars(floor, x, y).bars])
                    self.assertEqual(turned(other, x, y), floor)
                    self.assertEqual(way_by_cells(other, x, y), OTHER[way_by_cells(floor, x, y)])
                    self.crossings(floor, other, x, y, length)

    def crossings(self, floor, other, x, y, length):
        """The lines through the square have as many crossings more, or less, as bars are long; all others the same."""
        grown = length if way_by_cells(floor, x, y) == "down" else -length
        for at, (first, sign) in enumerate(((x, 1), (y, -1))):
            for c, (before, behind) in enumerate(zip(profile(floor)[at], profile(other)[at]), 1):
                within = first < c < first + length
                self.assertEqual(behind - before, sign * grown if within else 0)
        for (way, c) in lines_of(floor.size):
            many = profile(other)[way == "level"][c - 1]
            self.assertEqual(many % length, remainder(floor.size, (way, c)))
            self.assertTrue(many == 0 or many >= need(floor.size, (way, c)))

    def test_what_is_not_true(self):
        # A turning of a bond may leave no bond, and one that takes more than two seams away is easily found.
        self.assertEqual([is_bond(FIVE), seams(turned(FIVE, 1, 0))], [True, (("upright", 2),)])
        square_of_five = Floor.plain((5, 5, 5))
        self.assertEqual([seams(square_of_five)[0][0], len(seams(square_of_five)), {way for way, _ in seams(turned(square_of_five, 0, 0))}],
                         ["level", 4, {"upright"}])

    def wrong_number(self, x, y, value):
        with self.subTest(x=x, y=y), self.assertRaises(InvalidNumber) as raised:
            turned(FIVE, x, y)
        self.assertEqual(raised.exception.value, value)
        self.assertIs(type(raised.exception.value), type(value))

    def test_what_is_no_column_or_no_row(self):
        for x in odd_values() + [6, 7, FORTY, BIG, "0", (0,), [0]]:
            for y in (0, 1, 4, 5, None, True, [0]):
                self.wrong_number(x, y, x)
        for y in odd_values() + [5, 6, FORTY, BIG, "0", (0,), [0]]:
            for x in (0, 1, 5):
                self.wrong_number(x, y, y)

    def test_where_no_turning_is(self):
        for x in range(6):
            for y in range(5):
                if (x, y) not in turnings(FIVE):
                    with self.subTest(x=x, y=y), self.assertRaises(InvalidOperation):
                        turned(FIVE, x, y)

    def test_floors_stay(self):
        floor = five()
        turned(floor, 1, 0)
        turned_along(floor, ((1, 0), (1, 0), (0, 2)))
        plain_row(floor)
        self.assertRaises(InvalidOperation, turned, floor, 0, 0)
        self.assertEqual([floor, floor.bars], [FIVE, FIVE.bars])


class Rows(unittest.TestCase):
    def test_along_drawn_rows(self):
        numbers = Numbers(73)
        for floor in drawn(74, 1):
            row, now = [], floor
            for _ in range(12):
                places = turnings(now)
                if places:
                    row.append(places[numbers.below(len(places))])
                    now = turned(now, *row[-1])
            with self.subTest(size=floor.size, row=row):
                self.assertEqual(turned_along(floor, tuple(row)), now)
                self.assertEqual(turned_along(now, tuple(row[::-1])), floor)
                self.assertIs(is_turning_row(floor, now, tuple(row)), True)
                self.assertIs(is_turning_row(now, floor, tuple(row[::-1])), True)
                self.assertIs(is_turning_row(floor, now, tuple(row[:-1])), len(row) == 0)

    def test_no_turning_and_the_same_one_again(self):
        self.assertEqual(turned_along(FIVE, ()), FIVE)
        self.assertEqual(turned_along(FIVE, ((1, 0), (1, 0))), FIVE)
        self.assertEqual(turned_along(FIVE, ((1, 0),) * 5), turned(FIVE, 1, 0))
        # A turning that is there only behind another one.
        self.assertNotIn((0, 0), turnings(FIVE))
        self.assertEqual(turned_along(FIVE, ((1, 0), (0, 0))), turned(turned(FIVE, 1, 0), 0, 0))

    def test_what_is_no_row(self):
        right = ((1, 0), (0, 2), (3, 3))
        wrong = odd_values() + [0, 1, "10", (1, 0), [(1, 0)], {(1, 0): 1}, right + (None,), ((1, 0, 0),), ((1,),), ([1, 0],), ((True, 0),),
                                ((1, False),), (("1", 0),), ((1, None),), ((1, 0), 1), (((1, 0),),), ((FIVE, 0),), (FIVE,), ((-1, 0),),
                                ((1, -1),), ((6, 0),), ((0, 5),), ((FORTY, 0),), ((1, FORTY),), ((5, 4),), ((0, 0),)]
        # What is wrong stands first, in the middle, or last.
        wrong += [((0, 0),) + right, right[:1] + ((0, 1),) + right[1:], right + ((5, 0),), right[:2] + ((6, 6),), ((2, 1),) + right]
        for value in wrong:
            if value == ():
                continue
            with self.subTest(value=value):
                self.assertRaises(InvalidOperation, turned_along, FIVE, value)
                for other in (FIVE, turned(FIVE, 1, 0), Floor.plain((6, 5, 2))):
                    self.assertIs(is_turning_row(FIVE, other, value), False)
        self.assertEqual(turned_along(FIVE, right).size, (6, 5, 2))

    def test_rows_to_the_plain_floor(self):
        for floor in drawn(75):
            with self.subTest(size=floor.size, bars=floor.bars):
                row = plain_row(floor)
                self.assertIsInstance(row, tuple)
                self.assertEqual({type(pair) for pair in row}, {tuple} if row else set())
                self.assertEqual(walked(floor, row), Floor.plain(floor.size))
                self.assertEqual(turned_along(floor, row), Floor.plain(floor.size))
                self.assertIs(is_turning_row(floor, Floor.plain(floor.size), row), True)

    def test_rows_of_all_floors_of_small_sizes(self):
        for size in SMALL:
            plain = Floor.plain(size)
            for bars in every_floor(size):
                floor = Floor(size, *bars)
                row = plain_row(floor)
                self.assertIs(is_turning_row(floor, plain, row), True)
                self.assertIs(row == (), floor == plain)
            self.assertEqual(walked(floor, row), plain)

    def test_all_floors_are_reached_from_the_plain_one(self):
        for size in ((4, 4, 2), (5, 4, 2), (6, 4, 3), (7, 6, 3), (6, 5, 2), (8, 4, 4), (3, 6, 2), (5, 6, 3)):
            start = Floor.plain(size)
            seen, todo = {start.bars}, [start]
            while todo:
                floor = todo.pop()
                for x, y in turnings(floor):
                    other = turned(floor, x, y)
                    if other.bars not in seen:
                        seen.add(other.bars)
                        todo.append(other)
            self.assertEqual(len(seen), many_floors(size))

    def test_rows_between_two_floors(self):
        numbers = Numbers(76)
        for size in DRAWN_SIZES:
            for turns in (2, 300):
                one, other = drawn_floor(numbers, size, turns), drawn_floor(numbers, size, turns)
                with self.subTest(size=size):
                    row = turning_row(one, other)
                    self.assertIsInstance(row, tuple)
                    self.assertEqual(walked(one, row), other)
                    self.assertIs(is_turning_row(one, other, row), True)
                    self.assertIs(is_turning_row(other, one, row[::-1]), True)
                    self.assertEqual(turned_along(one, row), other)
                    # Twice the same turning at the end leads to the same floor.
                    for x, y in turnings(other)[:2]:
                        self.assertIs(is_turning_row(one, other, row + ((x, y), (x, y))), True)
                        self.assertIs(is_turning_row(one, other, row + ((x, y),)), False)

    def test_rows_between_all_floors_of_a_size(self):
        for size in ((4, 3, 2), (4, 4, 2), (6, 4, 3)):
            floors = [Floor(size, *bars) for bars in every_floor(size)]
            for one in floors:
                for other in floors:
                    self.assertIs(is_turning_row(one, other, turning_row(one, other)), True)
                    self.assertIs(is_turning_row(one, other, ()), one == other)

    def test_the_plain_floor_and_equal_floors(self):
        for size in DRAWN_SIZES:
            plain = Floor.plain(size)
            self.assertEqual([plain_row(plain), turning_row(plain, plain)], [(), ()])
        self.assertIs(is_turning_row(FIVE, five(), turning_row(FIVE, five())), True)

    def test_floors_that_are_none_or_unlike(self):
        two, rows = Floor.plain((6, 6, 2)), (None, (), ((0, 0),), FIVE)
        pairs = [(value, FIVE) for value in NO_FLOORS] + [(FIVE, value) for value in NO_FLOORS] + [(value, value) for value in NO_FLOORS]
        pairs += [(FIVE, two), (two, FIVE), (FIVE, FIVE.exchanged()), (two, Floor.plain((6, 6, 3))), (Floor.plain((20, 20, 2)), FIVE)]
        for one, other in pairs:
            with self.subTest(one=one, other=other):
                self.assertRaises(InvalidFloor, turning_row, one, other)
                for row in rows:
                    self.assertRaises(InvalidFloor, is_turning_row, one, other, row)

    def test_more_turnings_than_the_limit(self):
        self.assertEqual(MAX_TURNINGS, 5000)
        numbers = Numbers(77)
        one, other = drawn_floor(numbers, (8, 8, 2)), drawn_floor(numbers, (8, 8, 2))
        for call, args in ((plain_row, (one,)), (turning_row, (one, other))):
            row = call(*args)
            self.assertGreater(len(row), 2)
            with mock.patch.object(module, "MAX_TURNINGS", len(row)):
                self.assertEqual(call(*args), row)
            with mock.patch.object(module, "MAX_TURNINGS", len(row) - 1), self.assertRaises(TooMany) as raised:
                call(*args)
            self.assertEqual(raised.exception.limit, len(row) - 1)
        # No row that is only judged is too long.
        self.assertIs(is_turning_row(FIVE, FIVE, ((1, 0),) * 6000), True)
        self.assertEqual(turned_along(FIVE, ((1, 0),) * 6001), turned(FIVE, 1, 0))

    def test_defined_in_this_module(self):
        for name in ("turnings", "turned", "turned_along", "plain_row", "turning_row", "is_turning_row"):
            self.assertEqual(getattr(module, name).__module__, "bondfloors.among.turns")

    def test_examples(self):
        self.assertEqual(
            [turnings(FIVE), write_floor(turned(FIVE, 1, 0)).split("\n")[1:3], turned(turned(FIVE, 1, 0), 1, 0) == FIVE,
             turnings(Floor.plain((3, 1, 3)))],
            [((0, 2), (1, 0), (3, 3), (4, 1)), ["vvvv>-", "||||vv"], True, ()],
        )
        self.assertEqual(
            [turned_along(FIVE, plain_row(FIVE)) == Floor.plain((6, 5, 2)),
             is_turning_row(HALF.laid(), Floor.plain((4, 2, 2)), ((0, 0),)), plain_row(Floor.plain((6, 5, 2)))],
            [True, True, ()],
        )


if __name__ == "__main__":
    unittest.main()
