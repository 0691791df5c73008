"""Stage 11: all floors of a size, with [0.11], [0.13] and [0.16] as far as they tell how many there are."""

import inspect
import itertools
import math
import unittest

from bondfloors.among import counts as module
from bondfloors.among.counts import MAX_COUNTED, Floors, many_bonds, many_floors, nth_floor, number_of
from bondfloors.base.floors import Floor
from bondfloors.errors import InvalidFloor, InvalidNumber, InvalidSize, TooMany
from bondfloors.lines.crossings import is_bond
from bondfloors.plans.plans import Plan
from bondfloors.sizes.verdicts import can_be_laid, has_bond
from bondfloors.text.texts import write_floor
from tests.drawn import Numbers, drawn_floor, every_floor, seams_counted
from tests.helper import BIG, FORTY, five, floor_of, odd_values

FIVE = five()
HALF = Plan((4, 2, 2), (2, 0, 2, 2, "across"), (0, 0, 2, 2, "down"))
# Sizes whose floors are few enough to be tried one by one: of one floor, of none, of some, with and without bonds.
SMALL = (
    (1, 1, 2), (2, 1, 2), (1, 2, 2), (2, 2, 2), (3, 3, 2), (3, 2, 2), (2, 3, 2), (4, 2, 2), (4, 4, 2), (1, 7, 2), (6, 1, 2),
    (5, 4, 2), (4, 5, 2), (6, 5, 2), (5, 6, 2), (8, 3, 2), (3, 8, 2), (12, 2, 2), (6, 3, 3), (4, 6, 3), (6, 6, 3), (7, 6, 3),
    (6, 7, 3), (9, 5, 3), (9, 3, 3), (8, 4, 4), (8, 8, 4), (7, 8, 4), (5, 5, 5), (10, 6, 5), (3, 1, 3), (1, 5, 5), (3, 3, 5),
    (2, 2, 3), (9, 7, 3), (16, 4, 4), (12, 5, 5), (64, 1, 64), (1, 64, 32), (64, 1, 2), (13, 2, 2),
)
NO_SIZES = odd_values() + [0, 6, (6, 5, 1), (0, 5, 2), (6, 0, 2), (6, 5), [6, 5, 2], (BIG + 1, 5, 2), (6, 5, BIG + 1), "6 5 2"]
NO_SIZES = [value for value in NO_SIZES if value != (6, 5, 2)]
TOO_GREAT = ((65, 1, 2), (1, 65, 2), (9, 8, 2), (8, 9, 3), (13, 5, 5), (11, 6, 7), (BIG, 1, 2), (1, BIG, 3), (BIG, BIG, BIG), (33, 2, 2))
NO_NUMBERS = odd_values() + [-1, -2, -FORTY, "0", (0,), [0], {0: 0}, FIVE, HALF]


def text_of(size, bars):
    """The letters of a floor, row by row: where two differ first, the one with a bar across has the lesser letter."""
    return write_floor(Floor(size, *bars)).split("\n", 1)[1]


def in_order(size):
    return sorted(every_floor(size), key=lambda bars: text_of(size, bars))


def laid_sizes():
    """All sizes of at most 64 cells that can be laid."""
    for width, height in itertools.product(range(1, 65), repeat=2):
        if width * height <= 64:
            for length in range(2, max(width, height) + 1):
                if width % length == 0 or height % length == 0:
                    yield width, height, length


def counted_by_columns(size):
    """The number of all floors and of the bonds, row by row: how far bars down still reach, and which lines are crossed."""
    width, height, length = size
    states = {((0,) * width, 0): 1}
    for y in range(height):
        states = rows_behind(states, size, y)
        if y < height - 1:
            # Marks the level line below the row if a bar down goes on.
            marked = {}
            for (reach, crossed), many in states.items():
                key = (reach, crossed | (any(reach) << (width - 1 + y)))
                marked[key] = marked.get(key, 0) + many
            states = marked
    every = (1 << (width + height - 2)) - 1
    ended = {crossed: many for (reach, crossed), many in states.items() if not any(reach)}
    return sum(ended.values()), ended.get(every, 0)


def rows_behind(states, size, y):
    width, height, length = size
    found = {}
    for (reach, crossed), many in states.items():
        todo = [(0, (), crossed)]
        while todo:
            x, row, now = todo.pop()
            if x == width:
                found[row, now] = found.get((row, now), 0) + many
            elif reach[x]:
                todo.append((x + 1, row + (reach[x] - 1,), now))
            else:
                if y + length <= height:
                    todo.append((x + 1, row + (length - 1,), now))
                if x + length <= width and not any(reach[x:x + length]):
                    todo.append((x + length, row + (0,) * length, now | ((1 << (length - 1)) - 1) << x))
    return found


class Numbered(unittest.TestCase):
    def test_against_all_floors(self):
        for size in SMALL:
            with self.subTest(size=size):
                order = in_order(size)
                bonds = [at for at, bars in enumerate(order) if seams_counted(size, bars) == 0]
                self.assertEqual([many_floors(size), many_bonds(size)], [len(order), len(bonds)])
                floors = Floors(size)
                self.assertEqual([floors.size, floors.total, floors.bonds], [size, len(order), len(bonds)])
                self.assertEqual([floor.bars for floor in floors.walk()], [tuple(sorted(bars)) for bars in order])
                first = floors.first_bond()
                self.assertEqual(first, Floor(size, *order[bonds[0]]) if bonds else None)
                self.assertEqual(str(floors), f"{len(order)} floors, {len(bonds)} bonds")
                step = 1 + len(order) // 150
                for number in list(range(0, len(order), step)) + [len(order) - 1] * (len(order) > 0):
                    floor = Floor(size, *order[number])
                    self.assertEqual([nth_floor(size, number), floors.nth(number)], [floor, floor])
                    self.assertEqual([number_of(floor), floors.number(floor)], [number, number])

    def test_columns_and_bonds_counted_otherwise(self):
        for size in ((6, 6, 2), (8, 5, 2), (5, 8, 2), (7, 6, 2), (6, 8, 2), (10, 5, 2), (9, 7, 3), (7, 9, 3), (8, 7, 2), (20, 3, 3)):
            with self.subTest(size=size):
                self.assertEqual((many_floors(size), many_bonds(size)), counted_by_columns(size))

    def test_known_numbers(self):
        self.assertEqual([many_floors((8, 8, 2)), many_floors((7, 8, 2)), many_floors((6, 6, 2))], [12988816, 1292697, 6728])
        self.assertEqual([many_bonds((5, 6, 2)), many_bonds((6, 6, 2)), many_bonds((8, 8, 2))], [6, 0, 25506])
        # Rows of two are laid as the numbers of Fibonacci tell.
        one, two = 1, 1
        for width in range(1, 33):
            self.assertEqual(many_floors((width, 2, 2)), two)
            one, two = two, one + two

    def test_bars_of_two_cells_by_a_product(self):
        # Kasteleyn's and Temperley and Fisher's number of the ways to lay dominoes.
        for width, height in itertools.product(range(1, 65), repeat=2):
            if width * height <= 64 and width * height % 2 == 0:
                found = math.prod(
                    (4 * math.cos(math.pi * a / (width + 1)) ** 2 + 4 * math.cos(math.pi * b / (height + 1)) ** 2) ** 0.25
                    for a in range(1, width + 1) for b in range(1, height + 1)
                )
                self.assertEqual(many_floors((width, height, 2)), round(found))

    def test_exchanged_sizes_and_where_bonds_are(self):
        for width, height, length in laid_sizes():
            with self.subTest(size=(width, height, length)):
                self.assertGreater(many_floors((width, height, length)), 0)
                many = many_bonds((width, height, length))
                self.assertIs(many > 0, has_bond((width, height, length)))
                if width < height:
                    self.assertEqual(many_floors((width, height, length)), many_floors((height, width, length)))
                    self.assertEqual(many, many_bonds((height, width, length)))

    def test_sizes_that_cannot_be_laid(self):
        for size in ((3, 3, 2), (1, 1, 2), (7, 9, 2), (8, 8, 3), (8, 8, 5), (8, 8, 9), (64, 1, 65), (2, 2, BIG), (1, 64, 3), (7, 7, 4)):
            self.assertIs(can_be_laid(size), False)
            floors = Floors(size)
            self.assertEqual([many_floors(size), many_bonds(size), floors.total, floors.bonds], [0, 0, 0, 0])
            self.assertEqual([list(floors.walk()), floors.first_bond(), str(floors)], [[], None, "0 floors, 0 bonds"])
            for number in (0, 1, FORTY):
                self.wrong_number(lambda: nth_floor(size, number), number)
                self.wrong_number(lambda: floors.nth(number), number)

    def test_first_bonds(self):
        found = 0
        for size in laid_sizes():
            if has_bond(size):
                floors = Floors(size)
                first = floors.first_bond()
                self.assertIs(is_bond(first), True)
                self.assertEqual([first.size, floors.nth(floors.number(first))], [size, first])
                found += 1
        # Floors of one bar; with length 2 those of 5 by 6, 5 by 8 and so on; with length 3 those of 7 by 9.
        self.assertEqual(found, 2 * 63 + 19 + 2)

    def test_none_before_the_first_bond(self):
        for size in ((5, 6, 2), (6, 5, 2), (5, 8, 2), (7, 6, 2)):
            floors = Floors(size)
            first = floors.number(floors.first_bond())
            for floor in itertools.islice(floors.walk(), first):
                self.assertIs(is_bond(floor), False)

    def wrong_number(self, call, value):
        with self.subTest(value=value), self.assertRaises(InvalidNumber) as raised:
            call()
        self.assertEqual(raised.exception.value, value)
        self.assertIs(type(raised.exception.value), type(value))

    def test_great_numbers_there_and_back(self):
        numbers = Numbers(51)
        for size in ((8, 8, 2), (10, 6, 2), (6, 10, 2), (32, 2, 2), (2, 32, 2), (16, 4, 2), (9, 7, 3), (21, 3, 3), (16, 4, 4), (12, 5, 2)):
            floors = Floors(size)
            drawn = [numbers.below(floors.total) for _ in range(6)] + [0, floors.total - 1]
            texts = []
            for number in sorted(set(drawn)):
                floor = nth_floor(size, number)
                self.assertEqual([number_of(floor), floors.number(floor), floors.nth(number)], [number, number, floor])
                texts.append(write_floor(floor))
            self.assertEqual(texts, sorted(texts))
            for _ in range(6):
                floor = drawn_floor(numbers, size)
                self.assertEqual(nth_floor(size, number_of(floor)), floor)
            # All bars across come first; all bars down come last.
            width, height, length = size
            if width % length == 0:
                self.assertEqual(nth_floor(size, 0), Floor.plain(size))
            if height % length == 0:
                self.assertEqual(floors.nth(floors.total - 1), Floor.plain((height, width, length)).exchanged())

    def test_numbers_that_are_none(self):
        for size in ((4, 2, 2), (6, 5, 2), (8, 8, 2), (2, 1, 2)):
            floors = Floors(size)
            for number in NO_NUMBERS + [floors.total, floors.total + 1, BIG, FORTY]:
                self.wrong_number(lambda: nth_floor(size, number), number)
                self.wrong_number(lambda: floors.nth(number), number)

    def test_numbers_ahead_of_too_many_and_behind_it(self):
        for size in TOO_GREAT:
            for number in NO_NUMBERS:
                self.wrong_number(lambda: nth_floor(size, number), number)
            for number in (0, 1, BIG, FORTY):
                self.too_many(nth_floor, size, number)

    def too_many(self, call, *args):
        with self.subTest(call=call.__name__, args=args), self.assertRaises(TooMany) as raised:
            call(*args)
        self.assertEqual(raised.exception.limit, 64)

    def test_more_than_64_cells(self):
        self.assertEqual(MAX_COUNTED, 64)
        for size in TOO_GREAT:
            for call in (many_floors, many_bonds, Floors):
                self.too_many(call, size)
        for size in ((13, 5, 5), (65, 1, 5), (20, 20, 2), (1, 400, 400), (11, 6, 2)):
            self.too_many(number_of, Floor.plain(size))

    def test_64_cells(self):
        for size in ((8, 8, 2), (64, 1, 2), (1, 64, 64), (32, 2, 2), (16, 4, 4), (8, 8, 8), (4, 16, 2), (8, 8, 3)):
            self.assertEqual(Floors(size).total, many_floors(size))
        self.assertEqual([many_floors((8, 8, 8)), many_floors((64, 1, 64)), many_floors((1, 64, 2))], [2, 1, 1])

    def test_what_is_no_size(self):
        for size in NO_SIZES:
            for call in (many_floors, many_bonds, Floors, lambda size: nth_floor(size, 0), lambda size: nth_floor(size, -1),
                         lambda size: nth_floor(size, None)):
                with self.subTest(size=size), self.assertRaises(InvalidSize):
                    call(size)

    def test_what_is_no_floor(self):
        for value in [value for value in odd_values() if not isinstance(value, Floor)] + [0, FIVE.size, FIVE.bars, HALF, (FIVE,)]:
            with self.subTest(value=value), self.assertRaises(InvalidFloor):
                number_of(value)

    def test_equal_calls_return_equal_results(self):
        floors = Floors((6, 5, 2))
        for _ in range(2):
            self.assertEqual([floors.total, floors.bonds, floors.first_bond(), floors.nth(7)],
                             [1183, 6, Floors((6, 5, 2)).first_bond(), nth_floor((6, 5, 2), 7)])


class AllFloors(unittest.TestCase):
    def test_walk_is_a_generator(self):
        floors = Floors((4, 2, 2))
        walk = floors.walk()
        self.assertTrue(inspect.isgenerator(walk))
        self.assertEqual(next(walk), Floor.plain((4, 2, 2)))
        # Each call begins anew, whatever another one has made.
        self.assertEqual(len(list(floors.walk())), 5)
        self.assertEqual(len(list(walk)), 4)
        self.assertEqual(list(walk), [])

    def test_the_first_floors_of_very_many(self):
        for size in ((8, 8, 2), (10, 6, 2), (32, 2, 2), (2, 32, 2), (16, 4, 2), (12, 5, 2), (9, 7, 3), (7, 9, 3), (8, 8, 4), (21, 3, 3), (5, 12, 3)):
            floors = Floors(size)
            walked = list(itertools.islice(floors.walk(), 60))
            self.assertEqual(walked, [nth_floor(size, number) for number in range(min(60, floors.total))])

    def test_floors_of_other_sizes(self):
        floors = Floors((6, 5, 2))
        for floor in (FIVE.exchanged(), Floor.plain((6, 4, 2)), Floor.plain((6, 6, 2)), Floor.plain((2, 1, 2)), Floor.plain((20, 20, 2))):
            self.assertIs(floor in floors, False)
            self.assertRaises(InvalidFloor, floors.number, floor)
        # Equal sides and another length.
        self.assertIs(Floor.plain((6, 6, 3)) in Floors((6, 6, 2)), False)
        self.assertRaises(InvalidFloor, Floors((6, 6, 2)).number, Floor.plain((6, 6, 3)))

    def test_in(self):
        floors = Floors((6, 5, 2))
        for floor in (FIVE, FIVE.mirrored(), Floor.plain((6, 5, 2))):
            self.assertIs(floor in floors, True)
            self.assertIs(floor not in floors, False)
        for value in [value for value in odd_values() if not isinstance(value, Floor)] + [0, 1, (6, 5, 2), FIVE.bars, str(FIVE), HALF, floors]:
            with self.subTest(value=value):
                self.assertIs(value in floors, False)
                self.assertRaises(InvalidFloor, floors.number, value)

    def test_equal(self):
        one = Floors((4, 2, 2))
        for other, same in ((Floors((4, 2, 2)), True), (one, True), (Floors((2, 4, 2)), False), (Floors((4, 2, 3)), False), (Floors((4, 3, 2)), False)):
            self.assertIs(one == other, same)
            self.assertIs(one != other, not same)
        # As many floors and bonds, but another size.
        self.assertIs(Floors((3, 3, 2)) == Floors((5, 5, 2)), False)
        for value in odd_values() + [0, 5, (4, 2, 2), "5 floors, 0 bonds", Floor.plain((4, 2, 2))]:
            self.assertIs(one == value, False)
            self.assertIs(value == one, False)
            self.assertIs(one != value, True)

    def test_str(self):
        for size, text in (((4, 4, 2), "36 floors, 0 bonds"), ((2, 1, 2), "1 floors, 1 bonds"), ((3, 3, 2), "0 floors, 0 bonds"),
                           ((1, 4, 2), "1 floors, 0 bonds"), ((6, 5, 2), "1183 floors, 6 bonds")):
            self.assertEqual(str(Floors(size)), text)

    def test_cannot_be_iterated_over(self):
        for call in (iter, list, tuple, sorted, lambda floors: (*floors,)):
            self.assertRaises(TypeError, call, Floors((4, 2, 2)))

    def test_properties_are_only_read(self):
        floors = Floors((4, 2, 2))
        for name in ("size", "total", "bonds"):
            with self.assertRaises(AttributeError):
                setattr(floors, name, 1)
        self.assertEqual([floors.size, floors.total, floors.bonds], [(4, 2, 2), 5, 0])

    def test_defined_in_this_module(self):
        for name in ("many_floors", "many_bonds", "nth_floor", "number_of", "Floors"):
            self.assertEqual(getattr(module, name).__module__, "bondfloors.among.counts")
        for name in ("size", "total", "bonds", "nth", "number", "walk", "first_bond", "__contains__", "__eq__", "__str__", "__init__"):
            self.assertIn(name, vars(Floors))

    def test_examples(self):
        self.assertEqual(
            [many_floors((4, 4, 2)), many_bonds((6, 5, 2)), many_floors((3, 3, 2)), many_floors((8, 8, 2)), many_bonds((6, 6, 2)),
             many_bonds((2, 1, 2))],
            [36, 6, 0, 12988816, 0, 1],
        )
        self.assertEqual([write_floor(floor).split("\n")[1] for floor in Floors((4, 2, 2)).walk()],
                         [">->-", ">-vv", "v>-v", "vv>-", "vvvv"])
        self.assertEqual(
            [number_of(HALF.laid()), nth_floor((4, 2, 2), 3) == HALF.laid(), Floors((6, 5, 2)).total, is_bond(Floors((6, 5, 2)).first_bond())],
            [3, True, 1183, True],
        )


if __name__ == "__main__":
    unittest.main()
