"""Stage 5: what sizes have, [5.1], with [0.9], [0.10], [0.11] and [0.13] as far as they speak of it."""

import unittest
from itertools import product

from bondfloors.base.floors import Floor
from bondfloors.errors import InvalidNumber, InvalidSize, Unlaid
from bondfloors.lines.crossings import need, profile
from bondfloors.plans.plans import Plan
from bondfloors.sizes import verdicts
from bondfloors.sizes.verdicts import (
    can_be_laid, has_bond, is_reason, reason, total_crossings, total_need, weight,
)
from tests import helper
from tests.drawn import Numbers, drawn_floor, every_floor, lines_of, seams_counted
from tests.helper import BIG, FORTY, odd_values

SMALL = tuple(product(range(1, 13), range(1, 13), range(2, 6)))
NO_SIZES = odd_values() + [
    0, 6, "abc", [6, 5, 2], (6, 5), (6, 5, 2, 1), (6, 5, 1), (6, 5, 0), (0, 5, 2), (6, 0, 2), (-6, 5, 2), (6, 5, -2),
    (BIG + 1, 5, 2), (6, BIG + 1, 2), (6, 5, BIG + 1), (FORTY, 5, 2), ("6", 5, 2), (6, 5, "2"), (6, 5, None),
    Plan((4, 2, 2), (0, 0, 4, 2, "across")), Floor.plain((4, 2, 2)), {6: 1, 5: 1, 2: 1},
]
# Values that are no reason for any size, whatever has the form of one aside.
NO_REASONS = odd_values() + [
    0, 1, "narrow", "few", "weights", "wide", ["narrow"], ["few"], {"narrow": 1}, {"few": 1}, (("narrow",),), (("few",),),
    ("narrow", 1), ("narrow", None), ("few", 1), ("few", 20, 18), ("narrow", "few"), ("Narrow",), ("FEW",), ("wide",), ("",),
    ("weights",), ("weights", 0), ("weights", 1), ("weights", 0, 1, 2), ("weights", (0, 1)), ("weights", 0, None),
    ("weights", "0", "1"), ("weights", [0], [1]), ["weights", 0, 1], ("weight", 0, 1), ("few", 0, 1), ("narrow", 0, 1),
    (0, 1), (0, 1, "weights"), ("weights", 0, True), ("weights", False, 1), ("weights", True, 0), ("weights", 1, False),
    ("weights", -1, 0), ("weights", 0, -1), (["narrow"],), (helper.five(),), ("reason", ("few",)), (True,), (None,),
]


def laid_by_the_words(size):
    width, height, length = size
    return width % length == 0 or height % length == 0


def bond_by_the_words(size):
    width, height, length = size
    if sorted((width, height)) == sorted((1, length)):
        return True
    return laid_by_the_words(size) and min(width, height) >= 2 * length + 1 and size != (6, 6, 2)


class Laid(unittest.TestCase):
    def test_small_sizes(self):
        for size in SMALL:
            self.assertIs(can_be_laid(size), laid_by_the_words(size), size)

    def test_against_all_floors(self):
        for size in product(range(1, 6), range(1, 6), (2, 3, 4, 5, 6)):
            self.assertIs(can_be_laid(size), any(True for _ in every_floor(size)), size)

    def test_great_sizes(self):
        for size, known in (((BIG, BIG, BIG), True), ((BIG, BIG - 1, 10), True), ((BIG - 1, BIG, 10), True), ((BIG, BIG, 3), False),
                            ((BIG - 1, BIG - 1, 3), True), ((2, 2, BIG), False), ((1, BIG, 7), False), ((1, BIG, 5), True)):
            self.assertIs(can_be_laid(size), known, size)

    def test_what_is_no_size(self):
        for size in NO_SIZES:
            for call in (can_be_laid, has_bond, total_need, total_crossings, reason):
                with self.subTest(size=size), self.assertRaises(InvalidSize):
                    call(size)
            for value in (0, -1, None, True, ("few",), size):
                with self.subTest(size=size, value=value):
                    self.assertRaises(InvalidSize, weight, size, value)
                    self.assertRaises(InvalidSize, is_reason, size, value)


class Weights(unittest.TestCase):
    def test_cell_by_cell(self):
        sizes = list(product(range(1, 10), range(1, 10), range(2, 8))) + [(13, 11, 12), (3, 4, 30), (25, 17, 6), (5, 5, 9)]
        for size in sizes:
            width, height, length = size
            counts = [0] * length
            for x, y in product(range(width), range(height)):
                counts[(x + y) % length] += 1
            self.assertEqual([weight(size, number) for number in range(length)], counts, size)
            self.assertIs(len(set(counts)) == 1, can_be_laid(size), size)

    def test_great_sizes(self):
        self.assertEqual([weight((BIG, 7, 5), number) for number in range(5)], [7 * BIG // 5] * 5)
        for number in (0, 1, BIG // 2, BIG - 1):
            self.assertEqual(weight((BIG, BIG, BIG), number), BIG)
        # One diagonal of a square of the side 10 ** 29 has as many cells as the number and one more, then fewer again.
        side = 10 ** 29
        for number, known in ((0, 1), (7, 8), (side - 1, side), (side, side - 1), (2 * side - 2, 1), (2 * side - 1, 0), (BIG - 1, 0)):
            self.assertEqual(weight((side, side, BIG), number), known)
        size = (BIG - 2, BIG - 3, 7)
        self.assertEqual(sum(weight(size, number) for number in range(7)), size[0] * size[1])
        self.assertLessEqual(max(weight(size, n) for n in range(7)) - min(weight(size, n) for n in range(7)), 7)

    def test_great_sizes_as_those_that_are_less_by_multiples(self):
        # Columns in the number of the length have each remainder once in each row.
        for length in (2, 3, 5, 7):
            for broad, high in product(range(1, length + 1), range(1, length + 1)):
                width, height = broad + length * 10 ** 20, high + length * 10 ** 25
                for number in range(length):
                    counts = sum((x + y) % length == number for x in range(broad) for y in range(high))
                    more = 10 ** 20 * height + 10 ** 25 * broad
                    self.assertEqual(weight((width, height, length), number), counts + more)

    def test_numbers_that_are_none(self):
        for number in odd_values() + [2, 3, -1, -2, FORTY, "0", (0,), [0], {0: 0}]:
            for size in ((3, 3, 2), (6, 5, 2), (BIG, BIG, 2)):
                with self.subTest(size=size, number=number), self.assertRaises(InvalidNumber) as raised:
                    weight(size, number)
                self.assertEqual(raised.exception.value, number)
                self.assertIs(type(raised.exception.value), type(number))
        self.assertRaises(InvalidNumber, weight, (3, 3, 5), 5)
        self.assertEqual(weight((3, 3, 5), 4), 1)


class Bonds(unittest.TestCase):
    def test_small_sizes(self):
        for size in SMALL:
            self.assertIs(has_bond(size), bond_by_the_words(size), size)

    def test_against_all_floors(self):
        sizes = [size for size in product(range(1, 8), range(1, 7), (2, 3, 4)) if size[0] * size[1] <= 36]
        for size in sizes + [(7, 9, 3), (9, 7, 3), (8, 8, 4), (8, 9, 4), (9, 9, 4)]:
            self.assertIs(has_bond(size), any(seams_counted(size, bars) == 0 for bars in every_floor(size)), size)

    def test_edges(self):
        for length in (2, 3, 4, 10, 10 ** 20):
            double = 2 * length
            for size, known in (
                ((length, 1, length), True), ((1, length, length), True), ((double, 1, length), False), ((1, double, length), False),
                ((length, length, length), False), ((length, 2, length), False), ((1, 1, length), False),
                ((3 * length, double, length), False), ((double, 3 * length, length), False), ((double, double + 1, length), False),
                ((3 * length, double + 1, length), True), ((double + 1, 3 * length, length), True),
                ((double + 1, double + 1, length), False), ((3 * length + 1, double + 1, length), False),
                ((3 * length, 3 * length, length), length != 2), ((4 * length, 3 * length, length), True),
            ):
                self.assertIs(has_bond(size), known, size)

    def test_great_sizes(self):
        for size, known in (((BIG, 5, 2), True), ((BIG, 4, 2), False), ((7, BIG, 3), False), ((BIG - 1, 7, 3), True),
                            ((BIG, BIG, BIG), False), ((BIG, 1, BIG), True), ((BIG, 2 * 10 ** 15 + 1, 10 ** 15), True),
                            ((BIG, 2 * 10 ** 15, 10 ** 15), False), ((BIG - 1, BIG - 1, 10), False), ((BIG, BIG, 2), True)):
            self.assertIs(has_bond(size), known, size)

    def test_exchanged_and_wider_sizes(self):
        for size in SMALL:
            width, height, length = size
            self.assertIs(has_bond((height, width, length)), has_bond(size), size)
            if has_bond(size) and sorted((width, height)) != [1, length]:
                self.assertIs(has_bond((width + length, height, length)), True, size)
                self.assertIs(has_bond((width + 10 ** 20 * length, height, length)), True, size)


class Totals(unittest.TestCase):
    def test_needs_line_by_line(self):
        for size in SMALL + ((30, 17, 5), (17, 30, 5), (25, 24, 12), (1, 50, 5), (50, 1, 25), (7, 21, 21)):
            if can_be_laid(size):
                self.assertEqual(total_need(size), sum(need(size, line) for line in lines_of(size)), size)

    def test_crossings_of_floors(self):
        numbers = Numbers(21)
        for size in SMALL:
            if can_be_laid(size):
                for floor in (Floor.plain(size), drawn_floor(numbers, size, 20)):
                    self.assertEqual(total_crossings(size), sum(map(sum, profile(floor))), size)

    def test_great_sizes(self):
        self.assertEqual(total_crossings((BIG, BIG, 10)), 9 * BIG * BIG // 10)
        self.assertEqual(total_crossings((BIG, BIG, BIG)), (BIG - 1) * BIG)
        self.assertEqual(total_crossings((BIG, 1, BIG)), BIG - 1)
        self.assertEqual(total_need((BIG, 1, BIG)), BIG - 1)
        # Each upright line has the need 7, but those at multiples of 10 and all level ones 10.
        self.assertEqual(total_need((BIG, 7, 10)), 7 * (BIG - BIG // 10) + 10 * (BIG // 10 - 1) + 6 * 10)
        self.assertEqual(total_need((7, BIG, 10)), total_need((BIG, 7, 10)))
        self.assertEqual(total_need((BIG, BIG, 10)), 20 * (BIG - 1))
        self.assertEqual(total_need((BIG, BIG - 1, BIG)), (BIG - 1) ** 2 + (BIG - 2) * BIG)

    def test_kinds(self):
        self.assertEqual([type(total_need((6, 5, 2))), type(total_crossings((6, 5, 2))), type(weight((6, 5, 2), 0))], [int] * 3)

    def test_sizes_that_cannot_be_laid(self):
        for size in ((3, 3, 2), (1, 1, 2), (4, 5, 6), (7, 7, 5), (BIG, BIG, 3), (2, 2, BIG)):
            for call in (total_need, total_crossings):
                with self.subTest(size=size), self.assertRaises(Unlaid) as raised:
                    call(size)
                self.assertEqual(raised.exception.value, size)


class Reasons(unittest.TestCase):
    def test_small_sizes_by_the_words(self):
        for size in SMALL:
            width, height, length = size
            known = []
            if min(width, height) <= 2 * length and sorted((width, height)) != [1, length]:
                known.append(("narrow",))
            if laid_by_the_words(size):
                needs = sum(need(size, line) for line in lines_of(size))
                if needs > (length - 1) * (width * height // length):
                    known.append(("few",))
            counts = [sum((x + y) % length == n for x in range(width) for y in range(height)) for n in range(length)]
            pairs = list(product(range(length), range(length)))
            known += [("weights", one, other) for one, other in pairs if counts[one] != counts[other]]
            tried = [("narrow",), ("few",)] + [("weights", one, other) for one, other in pairs]
            with self.subTest(size=size):
                self.assertEqual([value for value in tried if is_reason(size, value)], [v for v in tried if v in known])
                if bond_by_the_words(size):
                    self.assertEqual([known, reason(size)], [[], None])
                else:
                    self.assertIn(reason(size), known)
                    self.assertIs(type(reason(size)), tuple)

    def test_each_kind_is_told_somewhere(self):
        self.assertEqual(reason((6, 6, 2)), ("few",))
        self.assertEqual(reason((4, 4, 2)) in (("narrow",), ("few",)), True)
        self.assertEqual(reason((7, 7, 2))[0], "weights")

    def test_great_sizes(self):
        for size in ((BIG, BIG - 1, 3), (BIG, BIG, 3), (BIG - 1, BIG - 2, 10 ** 12), (BIG, BIG - 3, 7 ** 20), (9 * 10 ** 29, BIG - 1, 4 * 10 ** 29),
                     (BIG, 4, 2), (BIG, 2 * 10 ** 9, 10 ** 9), (1, 1, BIG), (BIG - 1, BIG - 1, BIG), (5 * 10 ** 29, BIG // 2 + 1, BIG)):
            if not bond_by_the_words(size):
                with self.subTest(size=size):
                    self.assertIs(is_reason(size, reason(size)), True)
        for size in ((BIG, BIG, 2), (BIG, 5, 2), (BIG, BIG - 1, 10), (BIG, 1, BIG), (7, BIG, 2)):
            self.assertIs(reason(size), None)
            for value in (("narrow",), ("few",), ("weights", 0, 1), ("weights", 1, 0)):
                self.assertIs(is_reason(size, value), False)

    def test_weights_of_great_lengths(self):
        # All pairs of remainders of width and height: the pair of numbers that is told is right for each.
        for length in (3, 4, 5, 6, 7, 8, 9):
            for broad, high in product(range(1, length), range(1, length)):
                size = (broad + 3 * length, high + 4 * length, length)
                self.assertEqual(reason(size)[0], "weights")
                self.assertIs(is_reason(size, reason(size)), True)
                size = (broad * 10 ** 25 + 3 * length * 10 ** 25, high * 10 ** 25 + 3 * length * 10 ** 25, length * 10 ** 25)
                self.assertIs(is_reason(size, reason(size)), True)

    def test_what_is_no_reason(self):
        for value in NO_REASONS + [("weights", 2, 0), ("weights", 0, 2), ("weights", FORTY, 0), ("weights", 0, -FORTY)]:
            for size in ((3, 3, 2), (6, 6, 2), (6, 5, 2), (4, 4, 2), (7, 7, 2), (1, 2, 2)):
                with self.subTest(size=size, value=value):
                    self.assertIs(is_reason(size, value), False)
        for value in (("weights", 0, 0), ("weights", 1, 1)):
            self.assertIs(is_reason((3, 3, 2), value), False)

    def test_reasons_of_other_sizes(self):
        self.assertIs(is_reason((3, 3, 2), ("few",)), False)
        self.assertIs(is_reason((7, 7, 2), ("narrow",)), False)
        self.assertIs(is_reason((6, 6, 2), ("weights", 0, 1)), False)
        self.assertIs(is_reason((3, 3, 2), ("weights", 1, 2)), False)
        self.assertIs(is_reason((7, 1, 7), ("narrow",)), False)
        self.assertIs(is_reason((7, 2, 7), ("narrow",)), True)
        self.assertIs(is_reason((3, 3, 2), ("narrow",)), True)

    def test_defined_in_this_module(self):
        for name in ("can_be_laid", "weight", "has_bond", "total_need", "total_crossings", "reason", "is_reason"):
            self.assertEqual(getattr(verdicts, name).__module__, "bondfloors.sizes.verdicts")


class Examples(unittest.TestCase):
    def test_first(self):
        self.assertEqual(
            [can_be_laid((3, 3, 2)), weight((3, 3, 2), 0), weight((3, 3, 2), 1), has_bond((6, 5, 2)), has_bond((6, 6, 2)),
             has_bond((7, 1, 7)), has_bond((10 ** 30, 7, 2))],
            [False, 5, 4, True, False, True, True],
        )

    def test_second(self):
        self.assertEqual(
            [is_reason((6, 6, 2), ("few",)), is_reason((6, 6, 2), ("narrow",)), is_reason((4, 4, 2), ("narrow",)),
             is_reason((3, 3, 2), ("weights", 1, 0)), reason((9, 7, 3)), total_need((6, 6, 2)), total_crossings((6, 6, 2))],
            [True, False, True, True, None, 20, 18],
        )


if __name__ == "__main__":
    unittest.main()
