"""Stage 8: the fewest seams, [8.1], with [0.12] and [0.13]."""

import unittest

from bondfloors.base.floors import Floor
from bondfloors.errors import InvalidSize, TooMany, Unlaid
from bondfloors.lines.crossings import seams
from bondfloors.plans import fewest
from bondfloors.plans.bonds import bond_plan
from bondfloors.plans.fewest import fewest_floor, fewest_plan, fewest_seams, is_fewest
from bondfloors.plans.plans import Plan
from tests.drawn import every_floor, seams_counted
from tests.helper import BIG, five, odd_values
from tests.test_bonds import counted_bars
from tests.test_verdicts import NO_SIZES, SMALL, bond_by_the_words, laid_by_the_words

HALF = Plan((4, 2, 2), (2, 0, 2, 2, "across"), (0, 0, 2, 2, "down"))
LAID = tuple(size for size in SMALL if laid_by_the_words(size))
# Sizes small enough to go through all of their floors, with each row of the table of [0.12].
SEARCHED = tuple(size for size in LAID if size[0] * size[1] <= 24) + (
    (6, 6, 2), (8, 4, 2), (4, 8, 2), (7, 4, 2), (6, 5, 2), (5, 6, 2), (10, 3, 2), (3, 10, 2), (14, 2, 2), (13, 2, 2), (7, 6, 2),
    (6, 7, 2), (9, 6, 3), (6, 9, 3), (7, 6, 3), (8, 6, 3), (10, 6, 3), (6, 6, 3), (12, 6, 3), (9, 5, 3), (5, 9, 3), (9, 4, 3),
    (12, 4, 3), (9, 7, 3), (10, 3, 3), (11, 3, 3), (12, 3, 3), (12, 2, 3), (8, 8, 4), (9, 8, 4), (11, 8, 4), (12, 8, 4), (12, 7, 4),
    (12, 5, 4), (8, 5, 4), (12, 4, 4), (7, 4, 4), (12, 3, 4), (10, 10, 5), (13, 10, 5), (10, 9, 5), (15, 6, 5), (20, 3, 5), (11, 5, 5),
)
# What the table of [0.12] says, worked out by hand.
KNOWN = (
    ((4, 1, 2), 1), ((2, 1, 2), 0), ((10, 1, 2), 4), ((12, 2, 3), 4), ((3, 2, 3), 1), ((2, 3, 3), 1), ((20, 4, 5), 6),
    ((2, 2, 2), 1), ((3, 3, 3), 2), ((4, 2, 2), 2), ((5, 2, 2), 2), ((3, 2, 2), 1), ((9, 3, 3), 4), ((10, 3, 3), 3), ((11, 3, 3), 4),
    ((5, 5, 5), 4), ((6, 5, 5), 1), ((9, 5, 5), 4), ((10, 5, 5), 5), ((4, 3, 2), 1), ((6, 4, 3), 1), ((6, 5, 3), 1), ((5, 6, 3), 1),
    ((30, 9, 5), 1), ((4, 4, 2), 2), ((5, 4, 2), 1), ((6, 4, 2), 2), ((7, 4, 2), 1), ((20, 4, 2), 2), ((6, 6, 3), 2), ((7, 6, 3), 1),
    ((8, 6, 3), 1), ((9, 6, 3), 1), ((12, 6, 3), 1), ((8, 8, 4), 2), ((12, 8, 4), 1), ((10, 10, 5), 2), ((15, 10, 5), 1),
    ((6, 6, 2), 1), ((6, 5, 2), 0), ((8, 6, 2), 0), ((9, 7, 3), 0), ((7, 1, 7), 0), ((14, 1, 7), 1), ((7, 7, 7), 6),
)
GREAT = (
    ((BIG, 4, 2), 2), ((4, BIG, 2), 2), ((BIG - 1, 4, 2), 1), ((BIG, 5, 5), 2 * 10 ** 29 + 3), ((5, BIG, 5), 2 * 10 ** 29 + 3),
    ((BIG - 1, 5, 5), 2 * 10 ** 29 + 2), ((BIG, 1, 2), BIG // 2 - 1), ((BIG, 4, 5), 3 + 2 * 10 ** 29 - 1), ((BIG, 7, 4), 1),
    ((BIG, BIG, BIG), BIG - 1), ((BIG, BIG - 1, BIG), BIG - 2), ((BIG, 1, BIG), 0), ((BIG, 7, 2), 0), ((BIG, 8, 4), 1),
    ((BIG - 1, 8, 4), 1), ((BIG, 2 * 10 ** 15, 10 ** 15), 1), ((2 * 10 ** 15, 2 * 10 ** 15, 10 ** 15), 2),
    ((BIG, 10 ** 15 + 7, 10 ** 15), 1), ((BIG, 10 ** 15, 10 ** 15), 2 * 10 ** 15 - 2), ((BIG, BIG // 2, BIG // 2), BIG // 2),
    ((10 ** 15 + 7, BIG, 10 ** 15), 1), ((BIG, BIG // 2, BIG // 4), 1), ((BIG // 2, BIG // 2, BIG // 4), 2),
    ((BIG, BIG // 2 + 1, BIG // 2), 1), ((BIG - 1, BIG // 2, BIG // 2), BIG // 2 - 1), ((BIG, BIG - 1, BIG // 4), 0),
)


class Seams(unittest.TestCase):
    def test_by_hand(self):
        for size, many in KNOWN + GREAT:
            with self.subTest(size=size):
                self.assertEqual(fewest_seams(size), many)
                self.assertEqual(fewest_seams((size[1], size[0], size[2])), many)

    def test_against_all_floors(self):
        for size in SEARCHED:
            with self.subTest(size=size):
                self.assertEqual(fewest_seams(size), min(seams_counted(size, bars) for bars in every_floor(size)))

    def test_none_exactly_if_there_is_a_bond(self):
        for size in LAID:
            self.assertIs(fewest_seams(size) == 0, bond_by_the_words(size), size)

    def test_at_most_one_if_both_sides_are_great_enough(self):
        for size in LAID:
            if min(size[:2]) >= 2 * size[2] + 1:
                self.assertLessEqual(fewest_seams(size), 1)

    def test_kinds(self):
        self.assertEqual([type(fewest_seams((6, 5, 2))), type(fewest_seams((BIG, 1, 2)))], [int, int])

    def test_what_is_no_size(self):
        for size in NO_SIZES:
            with self.subTest(size=size):
                for call in (fewest_seams, fewest_plan, fewest_floor):
                    self.assertRaises(InvalidSize, call, size)
                for value in (None, HALF, size):
                    self.assertRaises(InvalidSize, is_fewest, size, value)

    def test_sizes_that_cannot_be_laid(self):
        calls = (fewest_seams, fewest_plan, fewest_floor, lambda size: is_fewest(size, HALF), lambda size: is_fewest(size, None))
        for size in ((3, 3, 2), (1, 1, 2), (2, 2, 3), (7, 7, 5), (BIG, BIG, 3), (2, 2, BIG), (21, 21, 2), (BIG - 1, 401, 2)):
            for call in calls:
                with self.subTest(size=size), self.assertRaises(Unlaid) as raised:
                    call(size)
                self.assertEqual(raised.exception.value, size)


class Plans(unittest.TestCase):
    def test_small_sizes(self):
        for size in LAID + tuple(size for size, _ in KNOWN):
            with self.subTest(size=size):
                plan = fewest_plan(size)
                self.assertIsInstance(plan, Plan)
                bars = counted_bars(plan)
                self.assertIsNotNone(bars)
                self.assertEqual([plan.size, seams_counted(size, bars)], [size, fewest_seams(size)])
                self.assertEqual(plan.many_seams(), fewest_seams(size))
                self.assertIs(is_fewest(size, plan), True)

    def test_great_sizes(self):
        for size, many in GREAT:
            for size in (size, (size[1], size[0], size[2])):
                with self.subTest(size=size):
                    plan = fewest_plan(size)
                    self.assertEqual([plan.size, plan.many_seams()], [size, many])
                    self.assertIs(is_fewest(size, plan), True)

    def test_any_right_plan(self):
        self.assertIs(is_fewest((4, 2, 2), HALF), True)
        self.assertIs(is_fewest((2, 4, 2), HALF.exchanged()), True)
        mirrored = Plan((4, 2, 2), (0, 0, 2, 2, "across"), (2, 0, 2, 2, "down"))
        self.assertIs(is_fewest((4, 2, 2), mirrored), True)
        self.assertIs(is_fewest((4, 2, 2), Plan((4, 2, 2), (0, 0, 4, 2, "across"))), True)
        self.assertIs(is_fewest((6, 5, 2), bond_plan((6, 5, 2))), True)
        bars = Plan((6, 5, 2), *[(x, y, 2, 1, way) if way == "across" else (x, y, 1, 2, way) for x, y, way in five().bars])
        self.assertIs(is_fewest((6, 5, 2), bars), True)

    def test_plans_with_more_seams_and_of_other_sizes(self):
        for size, value in (
            ((4, 2, 2), Plan((4, 2, 2), (0, 0, 4, 2, "down"))), ((2, 4, 2), HALF), ((4, 4, 2), HALF), ((6, 2, 2), HALF),
            ((4, 2, 4), HALF), ((6, 5, 2), Plan((6, 5, 2), (0, 0, 6, 5, "across"))), ((6, 6, 2), bond_plan((6, 5, 2))),
            ((6, 6, 2), Plan((6, 6, 2), (0, 0, 6, 6, "across"))), ((5, 6, 2), bond_plan((6, 5, 2))),
            ((8, 5, 2), bond_plan((6, 5, 2))), ((BIG, 4, 2), Plan((BIG, 4, 2), (0, 0, BIG, 4, "across"))),
        ):
            with self.subTest(size=size, value=value.blocks):
                self.assertIs(is_fewest(size, value), False)

    def test_a_bond_and_a_row(self):
        lower = [(x, y + 1, width, height, way) for x, y, width, height, way in bond_plan((6, 5, 2)).blocks]
        self.assertIs(is_fewest((6, 6, 2), Plan((6, 6, 2), (0, 0, 6, 1, "across"), *lower)), True)

    def test_what_is_no_plan(self):
        plan = fewest_plan((4, 2, 2))
        wrong = odd_values() + [0, 2, plan.laid(), plan.size, plan.blocks, (plan,), [plan], {"plan": plan}, ("plan", plan), str(plan),
                                fewest_floor((4, 2, 2)), (plan.size, plan.blocks), (plan.size,) + plan.blocks]
        for value in wrong:
            for size in ((4, 2, 2), (6, 5, 2), (BIG, 4, 2)):
                with self.subTest(size=size, value=value):
                    self.assertIs(is_fewest(size, value), False)


class Floors(unittest.TestCase):
    def test_fewest_floor(self):
        for size in LAID + ((20, 20, 2), (400, 1, 2), (1, 400, 400), (40, 10, 5), (133, 3, 3), (25, 16, 8)):
            with self.subTest(size=size):
                floor = fewest_floor(size)
                self.assertIsInstance(floor, Floor)
                self.assertEqual([floor.size, len(seams(floor))], [size, fewest_seams(size)])

    def test_more_than_400_cells(self):
        for size in ((401, 1, 401), (1, 401, 401), (21, 20, 2), (20, 21, 2), (134, 3, 3), (BIG, 4, 2), (BIG, BIG, BIG), (6, 67, 2)):
            with self.subTest(size=size), self.assertRaises(TooMany) as raised:
                fewest_floor(size)
            self.assertEqual(raised.exception.limit, 400)

    def test_equal_calls(self):
        self.assertEqual([fewest_floor((9, 6, 3)), fewest_plan((9, 6, 3))], [fewest_floor((9, 6, 3)), fewest_plan((9, 6, 3))])

    def test_defined_in_this_module(self):
        for name in ("fewest_seams", "fewest_plan", "is_fewest", "fewest_floor"):
            self.assertEqual(getattr(fewest, name).__module__, "bondfloors.plans.fewest")


class Examples(unittest.TestCase):
    def test_first(self):
        sizes = ((6, 5, 2), (4, 4, 2), (6, 6, 2), (12, 3, 3), (13, 3, 3), (9, 6, 3), (6, 6, 3), (8, 5, 4), (6, 10, 3), (9, 2, 3))
        self.assertEqual([fewest_seams(size) for size in sizes], [0, 2, 1, 5, 4, 1, 2, 1, 1, 3])

    def test_second(self):
        self.assertEqual(
            [len(seams(fewest_floor((4, 4, 2)))), fewest_plan((10 ** 30, 4, 2)).many_seams(), fewest_seams((10 ** 30, 5, 5)),
             is_fewest((4, 2, 2), HALF)],
            [2, 2, 200000000000000000000000000003, True],
        )


if __name__ == "__main__":
    unittest.main()
