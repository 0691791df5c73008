"""Stage 3: lines, what crosses them, and seams; with [0.8], [0.10] and the last sentence of [0.13]."""

import unittest

from bondfloors.base.floors import Floor
from bondfloors.errors import InvalidFloor, InvalidLine, InvalidSize, Unlaid
from bondfloors.lines import crossings as module
from bondfloors.lines.crossings import crossings, is_bond, is_line, need, profile, remainder, seams, strength
from bondfloors.plans.plans import Plan
from tests import helper
from tests.drawn import DRAWN_SIZES, Numbers, counted, drawn_floor, lines_of
from tests.helper import BIG, FORTY, five, floor_of, odd_values

FIVE = five()
NO_FLOORS = [value for value in odd_values() if not isinstance(value, Floor)] + [
    Plan((6, 5, 2), (0, 0, 6, 5, "across")), (6, 5, 2), helper.FIVE_BARS, str(FIVE), "floor 2 1 2\n>-", 0, 1,
]
NO_LINES = odd_values() + [
    0, 1, "upright", "level", ("upright",), ("upright", 1, 1), ("upright", 1, 1, 1), ("upright", True), ("level", True),
    ("upright", False), ("upright", None), ("upright", "1"), ("upright", (1,)), ("upright", [1]), ("Upright", 1),
    ("across", 1), ("down", 1), ("", 1), ("upright ", 1), (None, 1), (1, "upright"), (1, 1), (("upright",), 1),
    (("upright", 1),), (["upright"], 1), ({"upright": 1}, 1), ["upright", 1], {"upright": 1}, {"upright": 1, "level": 1},
    ("upright", 0), ("level", 0), ("upright", -1), ("level", -1), ("upright", FORTY), ("level", FORTY),
    ("upright", -FORTY), ("upright", FIVE), (FIVE, 1), (True, 1), ("uprightlevel", 1), ("rightlev", 1),
]


class Lines(unittest.TestCase):
    def test_from_one_to_one_less_than_the_side(self):
        for size in ((6, 5, 2), (1, 7, 3), (7, 1, 7), (3, 3, 2), (1, 1, 2), (2, 9, 30)):
            width, height, _ = size
            for c in range(-2, 12):
                with self.subTest(size=size, c=c):
                    self.assertIs(is_line(size, ("upright", c)), 1 <= c <= width - 1)
                    self.assertIs(is_line(size, ("level", c)), 1 <= c <= height - 1)

    def test_great_sizes(self):
        size = (BIG, 7, 2)
        for c, known in ((1, True), (BIG - 1, True), (BIG // 2, True), (BIG, False), (BIG + 1, False), (FORTY, False)):
            self.assertIs(is_line(size, ("upright", c)), known)
            self.assertIs(is_line((7, BIG, BIG), ("level", c)), known)
            self.assertIs(is_line(size, ("level", c)), c == 1)

    def test_what_is_no_line(self):
        for value in NO_LINES:
            with self.subTest(value=value):
                self.assertIs(is_line((6, 5, 2), value), False)
                self.assertIs(is_line((BIG, BIG, 2), value), False)

    def test_what_is_no_size(self):
        for size in odd_values() + [0, 5, (6, 5, 1), (0, 5, 2), (6, 5), [6, 5, 2], (BIG + 1, 5, 2), FIVE]:
            for value in (("upright", 1), None, ("upright", 0), size):
                with self.subTest(size=size, value=value), self.assertRaises(InvalidSize):
                    is_line(size, value)


class Remainders(unittest.TestCase):
    def test_by_the_words_of_the_document(self):
        for size in ((6, 5, 2), (5, 6, 2), (6, 6, 2), (10, 9, 5), (9, 10, 5), (4, 3, 4), (7, 1, 7), (1, 9, 3), (12, 8, 4)):
            width, height, length = size
            for way, c in lines_of(size):
                with self.subTest(size=size, line=(way, c)):
                    other = height if way == "upright" else width
                    known = 0 if c % length == 0 else other % length
                    self.assertEqual(remainder(size, (way, c)), known)
                    self.assertEqual(need(size, (way, c)), length if known == 0 else known)

    def test_of_drawn_floors(self):
        numbers = Numbers(3)
        for size in DRAWN_SIZES:
            for _ in range(3):
                floor = drawn_floor(numbers, size)
                for line in lines_of(size):
                    with self.subTest(size=size, line=line):
                        found = crossings(floor, line)
                        self.assertEqual(found % size[2], remainder(size, line))
                        if found > 0:
                            self.assertGreaterEqual(found, need(size, line))

    def test_great_sizes(self):
        size = (BIG, BIG - 1, 10)
        self.assertEqual(remainder(size, ("upright", BIG - 1)), 9)
        self.assertEqual(remainder(size, ("upright", BIG - 10)), 0)
        self.assertEqual(need(size, ("upright", BIG - 10)), 10)
        self.assertEqual([remainder(size, ("level", 1)), need(size, ("level", 1))], [0, 10])
        self.assertEqual(remainder((BIG, BIG - 1, BIG), ("upright", 5)), BIG - 1)
        self.assertEqual(need((BIG, BIG - 1, BIG), ("level", 5)), BIG)
        self.assertEqual(need((BIG, 1, BIG), ("upright", 5)), 1)

    def test_errors_in_their_order(self):
        for call in (remainder, need):
            for size in odd_values() + [(6, 5, 1), 0]:
                for line in (("upright", 1), None, ("upright", 0)):
                    with self.subTest(size=size, line=line), self.assertRaises(InvalidSize):
                        call(size, line)
            for line in NO_LINES + [("upright", 6), ("level", 5), ("upright", BIG)]:
                with self.subTest(line=line), self.assertRaises(InvalidLine):
                    call((6, 5, 2), line)
            # What is no line comes before a size that cannot be laid.
            for line in NO_LINES + [("upright", 3), ("level", 3)]:
                with self.subTest(line=line), self.assertRaises(InvalidLine):
                    call((3, 3, 2), line)
            with self.assertRaises(InvalidLine):
                call((1, 1, 2), ("upright", 1))

    def test_sizes_that_cannot_be_laid(self):
        for size in ((3, 3, 2), (2, 2, 3), (4, 5, 6), (7, 7, 5), (BIG, BIG, 3), (2, 2, BIG)):
            for call in (remainder, need):
                for line in (("upright", 1), ("level", 1)):
                    with self.subTest(size=size), self.assertRaises(Unlaid) as raised:
                        call(size, line)
                    self.assertEqual(raised.exception.value, size)


class Crossings(unittest.TestCase):
    def test_cell_by_cell_in_drawn_floors(self):
        numbers = Numbers(1)
        for size in DRAWN_SIZES:
            for _ in range(2):
                floor = drawn_floor(numbers, size)
                known = {line: counted(floor, line) for line in lines_of(size)}
                with self.subTest(size=size, bars=floor.bars):
                    for line in known:
                        self.assertEqual(crossings(floor, line), known[line])
                    self.assertEqual(seams(floor), tuple(line for line in lines_of(size) if known[line] == 0))
                    self.assertIs(is_bond(floor), 0 not in known.values())
                    self.assertEqual(strength(floor), min(known.values()))
                    width, height, length = size
                    self.assertEqual(profile(floor), (
                        tuple(known["upright", c] for c in range(1, width)),
                        tuple(known["level", c] for c in range(1, height)),
                    ))
                    self.assertEqual(sum(known.values()), (length - 1) * len(floor))
                    self.assertEqual(sum(map(sum, profile(floor))), (length - 1) * len(floor))

    def test_plain_floors(self):
        self.assertEqual(profile(Floor.plain((6, 2, 3))), ((2, 2, 0, 2, 2), (0,)))
        self.assertEqual(profile(Floor.plain((2, 6, 3))), ((0,), (2, 2, 0, 2, 2)))
        self.assertEqual(seams(Floor.plain((6, 2, 3))), (("level", 1), ("upright", 3)))
        self.assertEqual(seams(Floor.plain((4, 3, 2))), (("level", 1), ("level", 2), ("upright", 2)))
        self.assertEqual([strength(Floor.plain((6, 2, 3))), is_bond(Floor.plain((6, 2, 3)))], [0, False])

    def test_floors_of_one_bar(self):
        self.assertEqual(profile(Floor.plain((4, 1, 4))), ((1, 1, 1), ()))
        self.assertEqual(profile(Floor.plain((1, 2, 2))), ((), (1,)))
        for size in ((4, 1, 4), (1, 2, 2), (2, 1, 2), (1, 400, 400)):
            floor = Floor.plain(size)
            self.assertEqual([seams(floor), is_bond(floor), strength(floor)], [(), True, 1])

    def test_one_row(self):
        floor = Floor.plain((6, 1, 2))
        self.assertEqual([seams(floor), strength(floor)], [(("upright", 2), ("upright", 4)), 0])

    def test_only_level_or_only_upright_seams(self):
        floor = floor_of(2, (">->-", "v>-v", "|>-|"))
        self.assertEqual([seams(floor), profile(floor)], [(("level", 1),), ((1, 2, 1), (0, 2))])
        self.assertEqual(seams(floor.exchanged()), (("upright", 1),))

    def test_strength_of_upright_and_of_level_lines(self):
        self.assertEqual([strength(FIVE), strength(FIVE.exchanged())], [1, 1])

    def test_ascending(self):
        for size in ((6, 6, 3), (12, 11, 4), (11, 4, 2), (22, 6, 2)):
            found = seams(Floor.plain(size))
            self.assertEqual(found, tuple(sorted(found)))
            self.assertGreater(len(found), 3)

    def test_kinds(self):
        ups, levels = profile(FIVE)
        self.assertEqual([type(profile(FIVE)), type(ups), type(levels), type(seams(FIVE))], [tuple] * 4)
        self.assertEqual({type(many) for many in ups + levels}, {int})
        self.assertEqual([type(line) for line in seams(Floor.plain((4, 2, 2)))], [tuple, tuple])
        self.assertIs(type(strength(FIVE)), int)
        self.assertIs(type(crossings(FIVE, ("level", 1))), int)

    def test_what_is_no_floor(self):
        for floor in NO_FLOORS:
            for call in (seams, is_bond, strength, profile):
                with self.subTest(floor=floor), self.assertRaises(InvalidFloor):
                    call(floor)
            for line in (("upright", 1), None, ("upright", 0), floor):
                with self.subTest(floor=floor, line=line), self.assertRaises(InvalidFloor):
                    crossings(floor, line)

    def test_what_is_no_line(self):
        for line in NO_LINES + [("upright", 6), ("upright", 7), ("level", 5), ("level", 6), ("upright", BIG)]:
            with self.subTest(line=line), self.assertRaises(InvalidLine):
                crossings(FIVE, line)
        for floor, line in ((Floor.plain((4, 1, 4)), ("level", 1)), (Floor.plain((1, 4, 4)), ("upright", 1))):
            with self.assertRaises(InvalidLine):
                crossings(floor, line)

    def test_exchanged_and_mirrored(self):
        numbers = Numbers(2)
        for size in DRAWN_SIZES:
            floor = drawn_floor(numbers, size)
            ups, levels = profile(floor)
            self.assertEqual(profile(floor.exchanged()), (levels, ups))
            self.assertEqual(profile(floor.mirrored()), (ups[::-1], levels))

    def test_the_floor_stays(self):
        floor = five()
        for _ in range(2):
            self.assertEqual(profile(floor), ((1, 2, 1, 2, 1), (2, 2, 2, 2)))
            self.assertEqual([seams(floor), floor == FIVE, floor.bars], [(), True, helper.FIVE_BARS])

    def test_defined_in_this_module(self):
        for name in ("is_line", "remainder", "need", "crossings", "seams", "is_bond", "strength", "profile"):
            self.assertEqual(getattr(module, name).__module__, "bondfloors.lines.crossings")


class Examples(unittest.TestCase):
    def test_first(self):
        self.assertEqual(
            [profile(FIVE), seams(FIVE), is_bond(FIVE), strength(FIVE), crossings(FIVE, ("upright", 4))],
            [((1, 2, 1, 2, 1), (2, 2, 2, 2)), (), True, 1, 2],
        )

    def test_second(self):
        self.assertEqual(
            [seams(Floor.plain((4, 2, 2))), need((6, 5, 2), ("upright", 2)), remainder((10, 9, 5), ("upright", 7)),
             is_line((6, 5, 2), ("level", 5))],
            [(("level", 1), ("upright", 2)), 2, 4, False],
        )


if __name__ == "__main__":
    unittest.main()
