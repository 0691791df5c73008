"""Stage 9: wider and higher floors, with [0.15]."""

import unittest

from bondfloors.base.floors import Floor
from bondfloors.errors import InvalidFloor, InvalidNumber, TooMany
from bondfloors.grow import steps
from bondfloors.grow.steps import heightened, is_least, least, lowered, narrowed, widened
from bondfloors.lines.crossings import is_bond, profile, seams
from bondfloors.plans.bonds import bond_plan
from bondfloors.plans.plans import Plan
from tests.drawn import DRAWN_SIZES, Numbers, drawn_floor, every_floor
from tests.helper import BIG, FORTY, five, floor_of, odd_values

FIVE = five()
EIGHT = floor_of(2, ("v>-v>->-", "|>-|v>-v", "vv>-|>-|", "||v>->-v", ">-|>->-|"))
HALF = Plan((4, 2, 2), (2, 0, 2, 2, "across"), (0, 0, 2, 2, "down"))
NO_FLOORS = [value for value in odd_values() if not isinstance(value, Floor)] + [
    0, 1, FIVE.size, FIVE.bars, str(FIVE), "floor 2 1 2\n>-", HALF, [FIVE], (FIVE,), {"floor": FIVE}, (FIVE.size, FIVE.bars),
]
NO_TIMES = odd_values() + [-1, -2, -FORTY, "1", "0", (1,), [1], {1: 1}, FIVE, HALF]


def rows_of(floor):
    """The letters > and v where bars begin, as floor_of takes them."""
    width, height, _ = floor.size
    begin = {(x, y): {"across": ">", "down": "v"}[way] for x, y, way in floor.bars}
    return ["".join(begin.get((x, y), ".") for x in range(width)) for y in range(height)]


def widened_by_the_words(floor):
    """The widened floor, row by row."""
    width, height, length = floor.size
    bars = []
    for bar in floor.bars:
        if bar[2] == "down" and bar[0] == width - 1:
            bars.append((width - 1 + length, bar[1], "down"))
        else:
            bars.append(bar)
    for y in range(height):
        if floor.bar_at(width - 1, y)[2] == "down":
            bars.append((width - 1, y, "across"))
        else:
            bars.append((width, y, "across"))
    return Floor((width + length, height, length), *bars)


def drawn(seed, many=3):
    numbers = Numbers(seed)
    return [drawn_floor(numbers, size) for size in DRAWN_SIZES for _ in range(many)]


def grown(floor, words):
    """The floor that is widened and heightened as the words say."""
    for word in words:
        floor = {"widened": widened, "heightened": heightened}[word](floor)
    return floor


class Wider(unittest.TestCase):
    def test_by_hand(self):
        self.assertEqual(widened(FIVE), EIGHT)
        self.assertEqual(widened(Floor.plain((2, 1, 2))), Floor.plain((4, 1, 2)))
        self.assertEqual(widened(Floor.plain((1, 3, 3))), floor_of(3, (">--v", ">--|", ">--|")))
        self.assertEqual(widened(Floor.plain((3, 1, 3))), Floor.plain((6, 1, 3)))
        self.assertEqual(widened(floor_of(2, ("v", "|", "v", "|"))), floor_of(2, (">-v", ">-|", ">-v", ">-|")))
        self.assertEqual(widened(floor_of(3, ("v>--", "|>--", "|>--"))), floor_of(3, ("v>-->--", "|>-->--", "|>-->--")))
        self.assertEqual(widened(floor_of(3, (">--v", ">--|", ">--|"))), floor_of(3, (">-->--v", ">-->--|", ">-->--|")))
        self.assertEqual(widened(floor_of(2, ("vv>-", "||vv", ">-||"))), floor_of(2, ("vv>->-", "||v>-v", ">-|>-|")))

    def test_higher_by_hand(self):
        self.assertEqual(heightened(Floor.plain((2, 1, 2))), floor_of(2, ("vv", "||", ">-")))
        self.assertEqual(heightened(Floor.plain((1, 3, 3))), Floor.plain((1, 6, 3)))
        self.assertEqual(heightened(Floor.plain((2, 2, 2))), floor_of(2, (">-", "vv", "||", ">-")))
        self.assertEqual(heightened(floor_of(2, ("v>-", "|>-"))), floor_of(2, ("v>-", "|vv", "v||", "|>-")))

    def test_drawn_floors_row_by_row(self):
        for floor in drawn(31):
            width, height, length = floor.size
            with self.subTest(size=floor.size, bars=floor.bars):
                if (width + length) * height <= 400:
                    self.assertEqual(widened(floor), widened_by_the_words(floor))
                    self.assertEqual(widened(floor, times=1), widened(floor))
                if (height + length) * width <= 400:
                    self.assertEqual(heightened(floor), widened_by_the_words(floor.exchanged()).exchanged())
                    self.assertEqual(heightened(floor, times=1), heightened(floor))

    def test_crossings(self):
        for floor in drawn(32):
            width, height, length = floor.size
            if (width + length) * height > 400:
                continue
            ups, levels = profile(floor)
            new_ups, new_levels = profile(widened(floor))
            downs = len([bar for bar in floor.bars if bar[0] == width - 1])
            with self.subTest(size=floor.size, bars=floor.bars):
                self.assertEqual([new_ups[:width - 1], new_levels], [ups, levels])
                self.assertEqual(new_ups[width - 1], length * downs)
                self.assertEqual(new_ups[-1], height - length * downs if length > 1 else 0)
                self.assertEqual(set(new_ups[width:-1]), {height} if length > 2 else set())

    def test_bonds(self):
        for size in ((6, 5, 2), (8, 6, 2), (9, 7, 3), (7, 9, 3), (12, 9, 4), (15, 11, 5)):
            floor = bond_plan(size).laid()
            for many in range(4):
                self.assertIs(is_bond(widened(floor, times=many)), True)
                self.assertIs(is_bond(heightened(floor, times=many)), True)
            self.assertIs(is_bond(heightened(widened(floor))), True)

    def test_a_floor_of_one_bar(self):
        for floor in (Floor.plain((2, 1, 2)), Floor.plain((4, 1, 4))):
            length = floor.length
            self.assertEqual(seams(widened(floor)), (("upright", length),))
            self.assertEqual(seams(heightened(floor)), (("level", length),))
            self.assertEqual(seams(widened(floor.exchanged())), (("upright", length),))
            self.assertEqual(seams(heightened(floor.exchanged())), (("level", length),))

    def test_only_bonds_become_bonds(self):
        for size in ((5, 4, 2), (4, 5, 2), (6, 5, 2), (4, 4, 2), (6, 5, 3), (7, 6, 3)):
            for bars in every_floor(size):
                floor = Floor(size, *bars)
                self.assertIs(is_bond(widened(floor)), is_bond(floor))
                self.assertIs(is_bond(heightened(floor)), is_bond(floor))

    def test_no_step_and_several_steps(self):
        for floor in (FIVE, Floor.plain((2, 1, 2)), HALF.laid(), floor_of(3, (">--v", ">--|", ">--|"))):
            self.assertEqual([widened(floor, times=0), heightened(floor, times=0)], [floor, floor])
            wider = higher = floor
            for many in range(1, 7):
                wider, higher = widened_by_the_words(wider), widened_by_the_words(higher.exchanged()).exchanged()
                self.assertEqual(widened(floor, times=many), wider)
                self.assertEqual(heightened(floor, times=many), higher)
                self.assertEqual(widened(floor, times=many).size, (floor.width + many * floor.length, floor.height, floor.length))

    def test_widening_and_heightening_do_not_change_places(self):
        self.assertNotEqual(heightened(widened(FIVE)), widened(heightened(FIVE)))

    def test_up_to_400_cells(self):
        floor = Floor.plain((2, 10, 2))
        self.assertEqual(widened(floor, times=19), Floor.plain((40, 10, 2)))
        self.assertEqual(heightened(Floor.plain((10, 2, 2)), times=19).size, (10, 40, 2))
        self.assertEqual(widened(Floor.plain((4, 1, 2)), times=198), Floor.plain((400, 1, 2)))
        self.assertEqual(widened(Floor.plain((20, 20, 2)), times=0), Floor.plain((20, 20, 2)))
        self.assertEqual(heightened(Floor.plain((400, 1, 100)), times=0), Floor.plain((400, 1, 100)))
        for call, made, times in (
            (widened, floor, 20), (heightened, floor.exchanged(), 20), (widened, floor, 10 ** 40 - 1), (heightened, floor, BIG),
            (widened, Floor.plain((20, 20, 2)), 1), (heightened, Floor.plain((20, 20, 2)), 1), (widened, Floor.plain((400, 1, 2)), 1),
            (heightened, Floor.plain((400, 1, 2)), 1), (heightened, Floor.plain((21, 18, 3)), 1), (widened, Floor.plain((18, 21, 3)), 1),
            (widened, FIVE, 38), (heightened, FIVE, 31),
        ):
            with self.subTest(size=made.size, times=times), self.assertRaises(TooMany) as raised:
                call(made, times=times)
            self.assertEqual(raised.exception.limit, 400)
        self.assertEqual([widened(FIVE, times=37).width, heightened(FIVE, times=30).height], [80, 65])

    def test_wrong_times(self):
        for times in NO_TIMES:
            for floor in (FIVE, Floor.plain((20, 20, 2))):
                for call in (widened, heightened):
                    with self.subTest(times=times), self.assertRaises(InvalidNumber) as raised:
                        call(floor, times=times)
                    self.assertEqual(raised.exception.value, times)
                    self.assertIs(type(raised.exception.value), type(times))

    def test_wrong_floors(self):
        for floor in NO_FLOORS:
            for call in (widened, heightened, narrowed, lowered, is_least, least):
                with self.subTest(floor=floor), self.assertRaises(InvalidFloor):
                    call(floor)
            for times in (0, 1, -1, None, True, BIG):
                with self.subTest(floor=floor, times=times):
                    with self.assertRaises(InvalidFloor):
                        widened(floor, times=times)
                    with self.assertRaises(InvalidFloor):
                        heightened(floor, times=times)

    def test_times_is_passed_by_keyword(self):
        self.assertRaises(TypeError, widened, FIVE, 1)
        self.assertRaises(TypeError, heightened, FIVE, 1)


class Narrower(unittest.TestCase):
    def test_what_was_widened(self):
        for floor in drawn(33):
            width, height, length = floor.size
            with self.subTest(size=floor.size, bars=floor.bars):
                if (width + length) * height <= 400:
                    self.assertEqual(narrowed(widened(floor)), floor)
                if (height + length) * width <= 400:
                    self.assertEqual(lowered(heightened(floor)), floor)

    def test_against_all_floors(self):
        # Each floor of a size is either the widened one of just one floor of the lesser size, or of none.
        for size in ((2, 4, 2), (3, 4, 2), (4, 4, 2), (4, 5, 2), (5, 4, 2), (6, 5, 2), (6, 6, 3), (7, 6, 3), (4, 3, 3), (6, 4, 3), (8, 4, 4)):
            width, height, length = size
            wider, higher = {}, {}
            if width > length:
                for bars in every_floor((width - length, height, length)):
                    before = Floor((width - length, height, length), *bars)
                    wider[widened(before).bars] = before
            if height > length:
                for bars in every_floor((width, height - length, length)):
                    before = Floor((width, height - length, length), *bars)
                    higher[heightened(before).bars] = before
            for bars in every_floor(size):
                floor = Floor(size, *bars)
                with self.subTest(size=size, rows=rows_of(floor)):
                    self.assertEqual(narrowed(floor), wider.get(floor.bars))
                    self.assertEqual(lowered(floor), higher.get(floor.bars))
                    self.assertIs(is_least(floor), floor.bars not in wider and floor.bars not in higher)

    def test_what_was_not(self):
        self.assertEqual([narrowed(FIVE), lowered(FIVE)], [None, None])
        for size in ((2, 1, 2), (1, 2, 2), (2, 2, 2), (3, 3, 3), (400, 1, 400), (1, 400, 400)):
            self.assertEqual([narrowed(Floor.plain(size)), lowered(Floor.plain(size))], [None, None])
        # A row ends with a bar across behind a bar down; a bar across stands before one down, but not just before it.
        for rows in (("vv>-", "||>-"), ("v>-", "|>-"), ("vvv", "|||"), (">-vv", ">-||"), ("v>-v", "|>-|", "vv>-", "||>-")):
            self.assertIsNone(narrowed(floor_of(2, rows)))
            self.assertIsNone(lowered(floor_of(2, rows).exchanged()))
        for rows in ((">--vv", ">--||", ">--||"), ("v>--", "|>--", "|>--"), ("vv>--", "||>--", "||>--")):
            self.assertIsNone(narrowed(floor_of(3, rows)))

    def test_by_hand(self):
        self.assertEqual(narrowed(EIGHT), FIVE)
        self.assertEqual(narrowed(Floor.plain((4, 1, 2))), Floor.plain((2, 1, 2)))
        self.assertEqual(narrowed(floor_of(3, (">--v", ">--|", ">--|"))), Floor.plain((1, 3, 3)))
        self.assertEqual(narrowed(floor_of(3, ("v>--v", "|>--|", "|>--|"))), floor_of(3, ("vv", "||", "||")))
        self.assertEqual(narrowed(floor_of(2, ("v>-v", "|>-|"))), floor_of(2, ("vv", "||")))
        self.assertEqual(narrowed(floor_of(2, ("v>-v", "|>-|", ">->-"))), floor_of(2, ("vv", "||", ">-")))
        self.assertEqual(narrowed(floor_of(2, (">-v", ">-|"))), Floor.plain((1, 2, 2)))
        self.assertEqual(lowered(floor_of(2, ("vv", "||", ">-"))), Floor.plain((2, 1, 2)))
        self.assertEqual(lowered(floor_of(2, (">-", "vv", "||"))), None)
        self.assertEqual(lowered(Floor.plain((1, 6, 3))), Floor.plain((1, 3, 3)))


class Least(unittest.TestCase):
    def test_drawn_floors(self):
        for floor in drawn(34):
            with self.subTest(size=floor.size, bars=floor.bars):
                base, words = least(floor)
                self.assertEqual([type(least(floor)), type(words)], [tuple, tuple])
                self.assertIs(is_least(base), True)
                self.assertEqual([narrowed(base), lowered(base)], [None, None])
                self.assertEqual(grown(base, words), floor)
                self.assertIs(is_least(floor), words == ())

    def test_as_the_document_goes_back(self):
        numbers = Numbers(35)
        for size in ((2, 1, 2), (1, 2, 2), (3, 4, 2), (3, 1, 3), (4, 3, 3), (6, 5, 2), (5, 2, 2), (2, 2, 2)):
            for _ in range(12):
                floor = drawn_floor(numbers, size, 20)
                for _ in range(4):
                    floor = (widened, heightened)[numbers.below(2)](floor, times=numbers.below(3))
                words, now = [], floor
                while narrowed(now) is not None or lowered(now) is not None:
                    while narrowed(now) is not None:
                        now = narrowed(now)
                        words.insert(0, "widened")
                    while lowered(now) is not None:
                        now = lowered(now)
                        words.insert(0, "heightened")
                with self.subTest(size=floor.size, bars=floor.bars):
                    self.assertEqual(least(floor), (now, tuple(words)))

    def test_by_hand(self):
        self.assertEqual(least(FIVE), (FIVE, ()))
        self.assertEqual(least(EIGHT), (FIVE, ("widened",)))
        self.assertEqual(least(heightened(EIGHT)), (FIVE, ("widened", "heightened")))
        self.assertEqual(least(widened(heightened(FIVE))), (FIVE, ("heightened", "widened")))
        self.assertEqual(least(heightened(widened(heightened(FIVE, times=2)))), (FIVE, ("heightened",) * 2 + ("widened", "heightened")))
        self.assertEqual(least(widened(FIVE, times=3)), (FIVE, ("widened",) * 3))
        self.assertEqual(least(heightened(FIVE, times=2)), (FIVE, ("heightened",) * 2))
        self.assertEqual(least(Floor.plain((400, 1, 2))), (Floor.plain((2, 1, 2)), ("widened",) * 199))
        self.assertEqual(least(Floor.plain((1, 400, 2))), (Floor.plain((1, 2, 2)), ("heightened",) * 199))
        self.assertEqual(least(Floor.plain((2, 1, 2))), (Floor.plain((2, 1, 2)), ()))

    def test_is_least(self):
        self.assertEqual([is_least(FIVE), is_least(EIGHT), is_least(heightened(FIVE)), is_least(EIGHT.mirrored())], [True, False, False, True])
        self.assertEqual([is_least(Floor.plain((2, 1, 2))), is_least(Floor.plain((4, 1, 2))), is_least(Floor.plain((1, 4, 2)))], [True, False, False])

    def test_floors_stay(self):
        floor = five()
        for _ in range(2):
            widened(floor, times=3)
            least(heightened(floor))
            narrowed(floor)
            self.assertRaises(TooMany, widened, floor, times=99)
            self.assertEqual([floor.size, floor.bars], [FIVE.size, FIVE.bars])

    def test_defined_in_this_module(self):
        for name in ("widened", "heightened", "narrowed", "lowered", "is_least", "least"):
            self.assertEqual(getattr(steps, name).__module__, "bondfloors.grow.steps")


class Examples(unittest.TestCase):
    def test_first(self):
        eight = widened(FIVE)
        self.assertEqual(
            [eight, profile(eight)[0], narrowed(eight) == FIVE, narrowed(FIVE), lowered(FIVE)],
            [EIGHT, (1, 2, 1, 2, 1, 4, 1), True, None, None],
        )

    def test_second(self):
        eight = widened(FIVE)
        self.assertEqual(
            [least(heightened(eight))[1], least(heightened(eight))[0] == FIVE, is_least(FIVE), is_bond(widened(FIVE, times=3)),
             seams(widened(Floor.plain((2, 1, 2))))],
            [("widened", "heightened"), True, True, True, (("upright", 2),)],
        )


if __name__ == "__main__":
    unittest.main()
