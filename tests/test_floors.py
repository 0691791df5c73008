"""Stage 2: floors, with [0.1] to [0.4] and [0.7] as far as they speak of them."""

import unittest

from bondfloors.base import floors
from bondfloors.base.floors import MAX_CELLS, Floor
from bondfloors.errors import InvalidFloor, InvalidNumber, InvalidOperation, InvalidSize, TooMany, Unlaid
from tests import helper
from tests.helper import BIG, FIVE_BARS, FORTY, cells, five, floor_of, odd_values

FIVE = five()
THREE = floor_of(3, ("v>--", "|>--", "|>--", ">--v", ">--|", ">--|"))
FLOORS = (
    FIVE, THREE, Floor.plain((1, 2, 2)), Floor.plain((7, 1, 7)), Floor.plain((6, 4, 3)), Floor.plain((5, 4, 4)),
    floor_of(2, ("v>-v", "|>-|")), floor_of(2, (">-v", "vv|", "||v", ">-|")),
)
# Both ways to make a floor have the same results and errors.
MAKERS = (lambda size, bars: Floor(size, *bars), lambda size, bars: Floor.of(size, bars))


class Made(unittest.TestCase):
    def test_properties(self):
        for make in MAKERS:
            floor = make((6, 5, 2), FIVE_BARS)
            self.assertEqual(floor.size, (6, 5, 2))
            self.assertEqual([floor.width, floor.height, floor.length], [6, 5, 2])
            self.assertEqual(floor.bars, FIVE_BARS)
            self.assertIsInstance(floor, Floor)

    def test_kinds_of_what_is_returned(self):
        self.assertIs(type(FIVE.size), tuple)
        self.assertIs(type(FIVE.bars), tuple)
        self.assertEqual({type(bar) for bar in FIVE.bars}, {tuple})
        self.assertEqual({tuple(type(item) for item in bar) for bar in FIVE.bars}, {(int, int, str)})

    def test_bars_in_any_order_come_ascending(self):
        orders = (FIVE_BARS[::-1], FIVE_BARS[7:] + FIVE_BARS[:7], FIVE_BARS[::2] + FIVE_BARS[1::2])
        for make in MAKERS:
            for bars in orders:
                floor = make((6, 5, 2), bars)
                self.assertEqual(floor.bars, FIVE_BARS)
                self.assertEqual(floor, FIVE)

    def test_one_bar(self):
        for size, way in (((3, 1, 3), "across"), ((1, 3, 3), "down"), ((1, 2, 2), "down"), ((400, 1, 400), "across")):
            for make in MAKERS:
                with self.subTest(size=size):
                    floor = make(size, ((0, 0, way),))
                    self.assertEqual([floor.size, floor.bars, len(floor)], [size, ((0, 0, way),), 1])

    def test_at_most_400_cells(self):
        self.assertEqual(MAX_CELLS, 400)
        rows = tuple((x, y, "across") for x in range(0, 20, 2) for y in range(20))
        self.assertEqual(Floor.of((20, 20, 2), rows).bars, rows)
        columns = tuple((x, 0, "down") for x in range(200))
        self.assertEqual(Floor.of((200, 2, 2), columns).bars, columns)
        for size, bars in (
            ((401, 1, 401), ((0, 0, "across"),)),
            ((1, 401, 401), ((0, 0, "down"),)),
            ((67, 6, 3), tuple((x, y, "down") for x in range(67) for y in (0, 3))),
            ((201, 2, 2), tuple((x, 0, "down") for x in range(201))),
            ((BIG, 1, BIG), ((0, 0, "across"),)),
            ((BIG, BIG, BIG), ((0, 0, "across"),)),
        ):
            for make in MAKERS:
                with self.subTest(size=size), self.assertRaises(InvalidFloor):
                    make(size, bars)

    def test_defined_in_this_module(self):
        self.assertEqual(floors.Floor.__module__, "bondfloors.base.floors")
        for name in ("of", "plain", "size", "width", "height", "length", "bars", "bar_at", "exchanged",
                     "mirrored", "how_many", "__len__", "__contains__", "__eq__", "__str__", "__init__"):
            with self.subTest(name):
                self.assertIn(name, vars(Floor))


class WronglyMade(unittest.TestCase):
    def refused(self, size, *bars):
        for make in MAKERS:
            with self.subTest(size=size, bars=bars), self.assertRaises(InvalidFloor):
                make(size, bars)

    def test_sizes(self):
        for size in odd_values() + [5, "abc", (6, 5, 1), (0, 5, 2), (6, 0, 2), (BIG + 1, 1, 2)]:
            self.refused(size, *FIVE_BARS)
            self.refused(size)

    def test_sizes_of_other_floors(self):
        for size in ((5, 6, 2), (6, 5, 3), (6, 6, 2), (7, 5, 2), (6, 4, 2), (5, 5, 2), (10, 3, 2), (6, 5, 30)):
            self.refused(size, *FIVE_BARS)

    def test_what_is_no_bar(self):
        wrong = odd_values() + [
            0, "across", "down", (0, 4), (0, 4, "across", 1), (0, 4, "Across"), (0, 4, "up"), (0, 4, ""), (0, 4, None),
            (0, 4, 1), (False, 4, "across"), ("0", 4, "across"), (0, "4", "across"), (None, 4, "across"),
            (0, 4, ("across",)), (0, 4, ["across"]), ((0, 4), "across"), ((0,), 4, "across"), (0, [4], "across"),
            [0, 4, "across"], ((0, 4, "across"),), {0: 4}, {0: 1, 4: 1, "across": 1}, (4, 0, "across"),
        ]
        rest = tuple(bar for bar in FIVE_BARS if bar != (0, 4, "across"))
        for value in wrong:
            self.refused((6, 5, 2), *rest, value)
            self.refused((6, 5, 2), value, *rest)
            self.refused((6, 5, 2), *FIVE_BARS, value)
            self.refused((2, 1, 2), value)

    def test_true_is_no_number_of_a_bar(self):
        self.refused((2, 2, 2), (0, 0, "down"), (True, 0, "down"))
        self.refused((2, 2, 2), (0, 0, "across"), (0, True, "across"))
        self.refused((2, 1, 2), (False, 0, "across"))
        self.refused((2, 1, 2), (0, False, "across"))

    def test_bars_left_out(self):
        self.refused((6, 5, 2))
        self.refused((2, 1, 2))
        for at in range(len(FIVE_BARS)):
            self.refused((6, 5, 2), *FIVE_BARS[:at], *FIVE_BARS[at + 1:])

    def test_bars_doubled(self):
        self.refused((2, 1, 2), (0, 0, "across"), (0, 0, "across"))
        for at in range(len(FIVE_BARS)):
            self.refused((6, 5, 2), *FIVE_BARS, FIVE_BARS[at])
            # As many bars as the floor has, with one twice in the place of its neighbour.
            self.refused((6, 5, 2), *FIVE_BARS[:at], *FIVE_BARS[at + 1:], FIVE_BARS[at - 1])

    def test_bars_moved_or_of_the_other_way(self):
        for at, (x, y, way) in enumerate(FIVE_BARS):
            other = {"across": "down", "down": "across"}[way]
            for moved in ((x + 1, y, way), (x - 1, y, way), (x, y + 1, way), (x, y - 1, way), (x, y, other)):
                self.refused((6, 5, 2), *FIVE_BARS[:at], moved, *FIVE_BARS[at + 1:])

    def test_bars_that_stand_out(self):
        self.refused((2, 2, 2), (0, 0, "across"), (1, 1, "across"))
        self.refused((2, 2, 2), (0, 0, "across"), (-1, 1, "across"))
        self.refused((2, 2, 2), (0, 0, "down"), (1, 1, "down"))
        self.refused((2, 2, 2), (0, 0, "down"), (1, -1, "down"))
        self.refused((3, 1, 2), (0, 0, "across"), (2, 0, "across"))
        self.refused((3, 1, 2), (-1, 0, "across"), (1, 0, "across"))
        self.refused((1, 3, 2), (0, 0, "down"), (0, 2, "down"))
        self.refused((2, 1, 2), (0, 0, "across"), (0, 1, "across"))
        self.refused((2, 1, 2), (0, 0, "across"), (2, 0, "across"))
        self.refused((2, 1, 2), (0, 0, "across"), (0, -1, "across"))
        self.refused((1, 2, 2), (0, 0, "down"), (-1, 0, "down"))
        self.refused((1, 2, 2), (0, 0, "down"), (1, 0, "down"))
        self.refused((2, 1, 2), (FORTY, 0, "across"))
        self.refused((2, 1, 2), (0, -FORTY, "down"))

    def test_sizes_that_no_floor_has(self):
        self.refused((2, 3, 5), (0, 0, "across"))
        self.refused((2, 2, 3), (0, 0, "down"))
        self.refused((3, 3, 2), (0, 0, "across"), (0, 1, "across"), (0, 2, "across"), (2, 0, "down"))
        self.refused((1, 1, 2))
        self.refused((1, 1, 2), (0, 0, "across"))
        self.refused((BIG, BIG, BIG), (0, 0, "across"))
        self.refused((BIG, 1, 2))

    def test_both_arguments_wrong(self):
        for value in odd_values():
            with self.subTest(value=value), self.assertRaises(InvalidFloor):
                Floor.of(value, value)

    def test_of_takes_a_tuple(self):
        wrong = [list(FIVE_BARS), {bar: 1 for bar in FIVE_BARS}, FIVE, "across", 15, (FIVE_BARS,), [FIVE_BARS]]
        for bars in wrong + odd_values():
            with self.subTest(bars=bars), self.assertRaises(InvalidFloor):
                Floor.of((6, 5, 2), bars)
            with self.subTest(bars=bars), self.assertRaises(InvalidFloor):
                Floor.of((2, 1, 2), bars)
        with self.assertRaises(InvalidFloor):
            Floor.of((2, 1, 2), [(0, 0, "across")])

    def test_a_tuple_is_no_rest(self):
        with self.assertRaises(InvalidFloor):
            Floor((6, 5, 2), FIVE_BARS)

    def test_arguments_are_not_changed(self):
        size, bars = [6, 5, 2], [(0, 0, "across"), [0, 1, "across"]]
        for _ in range(2):
            self.assertRaises(InvalidFloor, Floor.of, size, tuple(bars))
            self.assertRaises(InvalidFloor, Floor.of, (2, 2, 2), bars)
            self.assertRaises(InvalidFloor, Floor, (2, 2, 2), *bars)
        self.assertEqual([size, bars], [[6, 5, 2], [(0, 0, "across"), [0, 1, "across"]]])


class Plain(unittest.TestCase):
    def test_across_if_the_length_divides_the_width(self):
        for size in ((2, 1, 2), (6, 5, 2), (6, 6, 2), (6, 6, 3), (6, 3, 3), (4, 1, 4), (12, 1, 4), (3, 2, 3), (20, 20, 5)):
            width, height, length = size
            with self.subTest(size=size):
                floor = Floor.plain(size)
                bars = tuple((x, y, "across") for x in range(0, width, length) for y in range(height))
                self.assertEqual([floor.size, floor.bars], [size, bars])
                self.assertEqual(floor, Floor(size, *bars))

    def test_down_if_it_does_not(self):
        for size in ((1, 2, 2), (5, 6, 2), (2, 3, 3), (7, 6, 3), (1, 9, 3), (3, 8, 4), (1, 400, 400)):
            width, height, length = size
            with self.subTest(size=size):
                floor = Floor.plain(size)
                bars = tuple((x, y, "down") for x in range(width) for y in range(0, height, length))
                self.assertEqual([floor.size, floor.bars], [size, bars])
                self.assertEqual(floor, Floor(size, *bars))

    def test_what_is_no_size(self):
        for size in odd_values() + [0, 6, "abc", [4, 2, 2], (4, 2, 1), (0, 2, 2), (BIG + 1, 2, 2), (2, 2, BIG + 1)]:
            with self.subTest(size=size), self.assertRaises(InvalidSize):
                Floor.plain(size)

    def test_sizes_that_cannot_be_laid(self):
        for size in ((3, 3, 2), (1, 1, 2), (2, 3, 5), (4, 4, 5), (5, 7, 3), (4, 2, 8), (6, 6, 4), (2, 2, BIG)):
            with self.subTest(size=size), self.assertRaises(Unlaid) as raised:
                Floor.plain(size)
            self.assertEqual(raised.exception.value, size)

    def test_more_than_400_cells(self):
        for size in ((401, 1, 401), (1, 401, 401), (21, 20, 2), (20, 21, 2), (21, 20, 5), (201, 2, 2), (BIG, BIG, BIG)):
            with self.subTest(size=size), self.assertRaises(TooMany) as raised:
                Floor.plain(size)
            self.assertEqual(raised.exception.limit, 400)

    def test_400_cells(self):
        for size, many in (((20, 20, 2), 200), ((400, 1, 400), 1), ((1, 400, 2), 200), ((40, 10, 5), 80)):
            with self.subTest(size=size):
                self.assertEqual(len(Floor.plain(size)), many)

    def test_unlaid_comes_before_too_many(self):
        for size in ((21, 21, 2), (401, 1, 2), (BIG - 1, BIG - 1, BIG), (BIG, BIG, 3)):
            with self.subTest(size=size), self.assertRaises(Unlaid) as raised:
                Floor.plain(size)
            self.assertEqual(raised.exception.value, size)


class Asked(unittest.TestCase):
    def test_bar_at(self):
        for floor in FLOORS:
            for bar in floor.bars:
                for x, y in cells(bar, floor.length):
                    with self.subTest(floor=str(floor), x=x, y=y):
                        self.assertEqual(floor.bar_at(x, y), bar)

    def wrong_number(self, x, y, value):
        with self.subTest(x=x, y=y), self.assertRaises(InvalidNumber) as raised:
            FIVE.bar_at(x, y)
        self.assertEqual(raised.exception.value, value)
        self.assertIs(type(raised.exception.value), type(value))

    def test_bar_at_what_is_no_column(self):
        for x in odd_values() + [6, 7, FORTY, BIG, "0", (0,), [0]]:
            self.wrong_number(x, 0, x)
            self.wrong_number(x, 4, x)

    def test_bar_at_what_is_no_row(self):
        for y in odd_values() + [5, 6, FORTY, BIG, "0", (0,), [0]]:
            self.wrong_number(0, y, y)
            self.wrong_number(5, y, y)

    def test_bar_at_the_first_wrong_number_decides(self):
        for x in odd_values() + [6, FORTY]:
            for y in (5, -2, None, True, [0], "x"):
                self.wrong_number(x, y, x)

    def test_exchanged(self):
        for floor in FLOORS:
            with self.subTest(str(floor)):
                other = floor.exchanged()
                width, height, length = floor.size
                self.assertEqual(other.size, (height, width, length))
                ways = {"across": "down", "down": "across"}
                self.assertEqual(sorted(other.bars), sorted((y, x, ways[way]) for x, y, way in floor.bars))
                self.assertEqual(other.bars, tuple(sorted(other.bars)))
                self.assertEqual(other.exchanged(), floor)
                for x in range(width):
                    for y in range(height):
                        here = cells(floor.bar_at(x, y), length)
                        there = cells(other.bar_at(y, x), length)
                        self.assertEqual([(b, a) for a, b in here], there)

    def test_mirrored(self):
        for floor in FLOORS:
            with self.subTest(str(floor)):
                other = floor.mirrored()
                width, height, length = floor.size
                self.assertEqual(other.size, floor.size)
                self.assertEqual(other.bars, tuple(sorted(other.bars)))
                self.assertEqual(other.mirrored(), floor)
                for x in range(width):
                    for y in range(height):
                        here = cells(floor.bar_at(x, y), length)
                        there = cells(other.bar_at(width - 1 - x, y), length)
                        self.assertEqual(sorted((width - 1 - a, b) for a, b in here), sorted(there))

    def test_exchanged_and_mirrored_of_five(self):
        mirror = (">-v>-v", "vv|>-|", "||>-vv", "v>-v||", "|>-|>-")
        self.assertEqual(FIVE.mirrored(), floor_of(2, mirror))
        turned = (">->-v", "vv>-|", "||v>-", ">-|vv", "v>-||", "|>->-")
        self.assertEqual(FIVE.exchanged(), floor_of(2, turned))

    def test_the_floor_itself_stays(self):
        floor = five()
        floor.exchanged()
        floor.mirrored()
        for call in (lambda: floor.bar_at(6, 0), lambda: floor.how_many("up")):
            self.assertRaises((InvalidNumber, InvalidOperation), call)
        self.assertEqual([floor.size, floor.bars, floor == FIVE], [(6, 5, 2), FIVE_BARS, True])

    def test_how_many(self):
        self.assertEqual([FIVE.how_many("across"), FIVE.how_many("down")], [7, 8])
        for floor in FLOORS:
            for way in ("across", "down"):
                self.assertEqual(floor.how_many(way), [bar[2] for bar in floor.bars].count(way))
        self.assertEqual([Floor.plain((3, 1, 3)).how_many(way) for way in ("across", "down")], [1, 0])

    def test_how_many_of_what_is_no_way(self):
        wrong = [0, 1, "up", "ACROSS", "acros", "acrossdown", "upright", "level", ("across",), ["down"], {"down": 1}]
        for way in wrong + odd_values():
            with self.subTest(way=way), self.assertRaises(InvalidOperation):
                FIVE.how_many(way)

    def test_len(self):
        self.assertEqual([len(FIVE), len(Floor.plain((7, 1, 7))), len(Floor.plain((6, 4, 3)))], [15, 1, 8])
        for floor in FLOORS:
            self.assertEqual(len(floor), len(floor.bars))

    def test_str(self):
        self.assertEqual(str(FIVE), "floor of 6 by 5 cells, 15 bars")
        self.assertEqual(str(Floor.plain((1, 3, 3))), "floor of 1 by 3 cells, 1 bars")
        self.assertEqual(str(Floor.plain((20, 20, 4))), "floor of 20 by 20 cells, 100 bars")


class Compared(unittest.TestCase):
    def test_in(self):
        for bar in FIVE_BARS:
            self.assertIs(bar in FIVE, True)
            self.assertIs(bar not in FIVE, False)
        every = [(x, y, way) for x in range(-1, 7) for y in range(-1, 6) for way in ("across", "down")]
        self.assertEqual(sorted(bar for bar in every if bar in FIVE), sorted(FIVE_BARS))

    def test_what_is_not_in(self):
        wrong = [
            0, 1, "across", "down", (0, 0), (0, 0, "down", 1), [0, 0, "down"], ((0, 0, "down"),), (0, 0, "DOWN"),
            (False, 0, "down"), (0, False, "down"), (True, 0, "across"), (True, True, "across"), (1, True, "across"),
            ("0", 0, "down"), (0, 0, ["down"]), ([0], 0, "down"), (0, 0, {}), (0, 0, None), (FORTY, 0, "down"),
            {0: 0}, FIVE_BARS, FIVE, (FIVE, 0, "down"), (0, 0, FIVE),
        ]
        for value in wrong + odd_values():
            with self.subTest(value=value):
                self.assertIs(value in FIVE, False)
                self.assertIs(value not in FIVE, True)

    def same(self, one, other, equal):
        for left, right in ((one, other), (other, one)):
            self.assertIs(left == right, equal)
            self.assertIs(left != right, not equal)

    def test_equal(self):
        self.same(FIVE, FIVE, True)
        self.same(FIVE, Floor((6, 5, 2), *FIVE_BARS[::-1]), True)
        self.same(FIVE, Floor.of((6, 5, 2), FIVE_BARS), True)
        self.same(Floor.plain((2, 1, 2)), Floor((2, 1, 2), (0, 0, "across")), True)

    def test_not_equal(self):
        for at, one in enumerate(FLOORS):
            for other in FLOORS[at + 1:]:
                self.same(one, other, False)
        self.same(FIVE, Floor.plain((6, 5, 2)), False)
        self.same(floor_of(2, (">-", ">-")), floor_of(2, ("vv", "||")), False)

    def test_equal_bars_and_other_sizes(self):
        self.same(Floor((2, 1, 2), (0, 0, "across")), Floor((3, 1, 3), (0, 0, "across")), False)
        self.same(Floor.plain((2, 3, 3)), Floor.plain((2, 2, 2)).exchanged(), False)
        self.same(Floor((2, 3, 3), (0, 0, "down"), (1, 0, "down")), floor_of(2, ("vv", "||")), False)

    def test_other_values(self):
        others = [0, 15, "floor of 6 by 5 cells, 15 bars", (6, 5, 2), FIVE_BARS, list(FIVE_BARS), ((6, 5, 2), FIVE_BARS)]
        for value in others + [value for value in odd_values() if not isinstance(value, Floor)]:
            with self.subTest(value=value):
                self.same(FIVE, value, False)

    def test_in_a_tuple(self):
        self.assertIs(five() in (None, 1, "a", (), FIVE), True)
        self.assertIs(FIVE.mirrored() in (None, 1, "a", (), FIVE), False)


class Held(unittest.TestCase):
    def test_cannot_be_iterated_over(self):
        for call in (iter, list, tuple, sorted, lambda floor: [bar for bar in floor], lambda floor: (*floor,)):
            with self.assertRaises(TypeError):
                call(FIVE)

    def test_properties_are_only_read(self):
        floor = five()
        for name in ("size", "width", "height", "length", "bars"):
            with self.subTest(name), self.assertRaises(AttributeError):
                setattr(floor, name, 1)
        self.assertEqual(floor, FIVE)

    def test_equal_calls_return_equal_results(self):
        floor = five()
        for _ in range(2):
            self.assertEqual([floor.bars, floor.size, str(floor), len(floor)],
                             [FIVE_BARS, (6, 5, 2), "floor of 6 by 5 cells, 15 bars", 15])
            self.assertEqual(floor.exchanged(), FIVE.exchanged())
            self.assertEqual(floor.mirrored(), FIVE.mirrored())

    def test_floors_are_apart(self):
        one, other = Floor.plain((4, 2, 2)), Floor.plain((2, 3, 3))
        self.assertEqual([one.size, other.size, len(one), len(other)], [(4, 2, 2), (2, 3, 3), 4, 2])
        self.assertEqual([one.bar_at(3, 1), other.bar_at(1, 2)], [(2, 1, "across"), (1, 0, "down")])


class Examples(unittest.TestCase):
    def test_first(self):
        self.assertEqual(
            [FIVE.bar_at(2, 1), FIVE.how_many("down"), FIVE.bars[0], len(FIVE), (0, 4, "across") in FIVE,
             (0, 4, "down") in FIVE, str(FIVE)],
            [(1, 1, "across"), 8, (0, 0, "down"), 15, True, False, "floor of 6 by 5 cells, 15 bars"],
        )

    def test_second(self):
        self.assertEqual(
            [FIVE.exchanged().bar_at(1, 2), FIVE.mirrored().bar_at(0, 0), Floor.plain((2, 3, 3)).bars,
             Floor((3, 1, 3), (0, 0, "across")).size],
            [(1, 1, "down"), (0, 0, "across"), ((0, 0, "down"), (1, 0, "down")), (3, 1, 3)],
        )


if __name__ == "__main__":
    unittest.main()
