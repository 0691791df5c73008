"""Stage 6: plans, [6.1], with [0.1] to [0.4] as far as they speak of them."""

import unittest

from bondfloors.base.floors import Floor
from bondfloors.errors import InvalidLine, InvalidNumber, InvalidOperation, InvalidPlan, TooMany
from bondfloors.lines.crossings import crossings, seams
from bondfloors.plans import plans
from bondfloors.plans.plans import MAX_BLOCKS, Plan
from tests import helper
from tests.drawn import DRAWN_SIZES, Numbers, counted_in_plan, drawn_floor, drawn_plan, lines_of, merged_plan
from tests.helper import BIG, FORTY, cells, five, odd_values

HALF_BLOCKS = ((0, 0, 2, 2, "down"), (2, 0, 2, 2, "across"))
HALF = Plan((4, 2, 2), *HALF_BLOCKS)
LONG = Plan((BIG, 2, 2), (0, 0, BIG, 2, "across"))
# A floor without seams as thirteen blocks, as the document tells plans of this size.
BOND_BLOCKS = (
    (0, 0, 1, 2, "down"), (0, 2, 2, 2, "down"), (0, 4, 2, 1, "across"), (1, 0, 2, 2, "across"), (2, 2, 2, 1, "across"),
    (2, 3, 1, 2, "down"), (3, 0, 1, 2, "down"), (3, 3, 2, 2, "across"), (4, 0, 2, 1, "across"), (4, 1, 2, 2, "down"),
    (5, 3, 1, 2, "down"),
)
BOND = Plan((6, 5, 2), *BOND_BLOCKS)
PLANS = (
    HALF, LONG, BOND, Plan((2, 1, 2), (0, 0, 2, 1, "across")), Plan((1, 3, 3), (0, 0, 1, 3, "down")),
    Plan((6, 4, 2), (0, 0, 6, 4, "down")), Plan((6, 4, 2), (0, 0, 6, 4, "across")),
    Plan((6, 4, 2), (0, 0, 6, 2, "across"), (0, 2, 6, 2, "across")), Plan((BIG, BIG, BIG), (0, 0, BIG, BIG, "down")),
)
# Both ways to make a plan have the same results and errors.
MAKERS = (lambda size, blocks: Plan(size, *blocks), lambda size, blocks: Plan.of(size, blocks))


def rows_of(many, width=2):
    """The blocks of as many rows of one bar each."""
    return tuple((0, y, width, 1, "across") for y in range(many))


class Made(unittest.TestCase):
    def test_properties(self):
        for make in MAKERS:
            plan = make((6, 5, 2), BOND_BLOCKS)
            self.assertIsInstance(plan, Plan)
            self.assertEqual([plan.size, plan.blocks, plan.bars], [(6, 5, 2), BOND_BLOCKS, 15])

    def test_blocks_in_any_order_come_ascending(self):
        for make in MAKERS:
            for blocks in (BOND_BLOCKS[::-1], BOND_BLOCKS[5:] + BOND_BLOCKS[:5], BOND_BLOCKS[::2] + BOND_BLOCKS[1::2]):
                plan = make((6, 5, 2), blocks)
                self.assertEqual([plan.blocks, plan], [BOND_BLOCKS, BOND])

    def test_ascending_by_numbers(self):
        plan = Plan((12, 1, 2), (10, 0, 2, 1, "across"), (2, 0, 8, 1, "across"), (0, 0, 2, 1, "across"))
        self.assertEqual([block[0] for block in plan.blocks], [0, 2, 10])

    def test_kinds(self):
        self.assertEqual([type(BOND.size), type(BOND.blocks), type(BOND.bars)], [tuple, tuple, int])
        self.assertEqual({tuple(map(type, block)) for block in BOND.blocks}, {(int, int, int, int, str)})

    def test_bars(self):
        for plan, many in zip(PLANS, (4, BIG, 15, 1, 1, 12, 12, 12, BIG)):
            self.assertEqual(plan.bars, many)
        self.assertEqual(Plan((BIG, 7, 5), (0, 0, BIG, 7, "across")).bars, 7 * BIG // 5)

    def test_at_most_64_blocks(self):
        self.assertEqual(MAX_BLOCKS, 64)
        for make in MAKERS:
            plan = make((2, 64, 2), rows_of(64))
            self.assertEqual([len(plan), plan.blocks], [64, rows_of(64)])
            for many in (65, 66, 400):
                with self.subTest(many), self.assertRaises(InvalidPlan):
                    make((2, many, 2), rows_of(many))
        columns = tuple((x, 0, 1, 2, "down") for x in range(65))
        self.assertRaises(InvalidPlan, Plan, (65, 2, 2), *columns)
        self.assertEqual(len(Plan((64, 2, 2), *columns[:64])), 64)

    def test_more_than_400_cells(self):
        for size in ((401, 1, 401), (21, 20, 3), (200, 200, 2), (BIG, 7, 2), (BIG, BIG, BIG)):
            width, height, length = size
            plan = Plan(size, (0, 0, width, height, "across"))
            self.assertEqual([plan.size, len(plan)], [size, 1])

    def test_defined_in_this_module(self):
        self.assertEqual(plans.Plan.__module__, "bondfloors.plans.plans")
        for name in ("of", "size", "blocks", "bars", "crossings", "is_seam", "many_seams", "next_seam", "exchanged",
                     "laid", "__len__", "__contains__", "__eq__", "__str__", "__init__"):
            with self.subTest(name):
                self.assertIn(name, vars(Plan))


class WronglyMade(unittest.TestCase):
    def refused(self, size, *blocks):
        for make in MAKERS:
            with self.subTest(size=size, blocks=blocks), self.assertRaises(InvalidPlan):
                make(size, blocks)

    def test_sizes(self):
        for size in odd_values() + [5, "abc", (4, 2, 1), (0, 2, 2), (4, 0, 2), [4, 2, 2], (BIG + 1, 1, 2)]:
            self.refused(size, *HALF_BLOCKS)
            self.refused(size)
        self.refused((BIG + 1, 2, 2), (0, 0, BIG + 1, 2, "down"))
        self.refused((2, 1, 1), (0, 0, 2, 1, "across"))

    def test_sizes_of_other_plans(self):
        for size in ((2, 4, 2), (4, 2, 3), (4, 2, 4), (4, 3, 2), (5, 2, 2), (3, 2, 2), (4, 1, 2), (8, 1, 2)):
            self.refused(size, *HALF_BLOCKS)

    def test_what_is_no_block(self):
        wrong = odd_values() + [
            0, "across", (2, 0, 2, 2), (2, 0, 2, 2, "across", 1), (2, 0, 2, "across"), (2, 0, "across"),
            (2, 0, 2, 2, "up"), (2, 0, 2, 2, ""), (2, 0, 2, 2, None), (2, 0, 2, 2, 1), (2, 0, 2, 2, "Across"),
            (2, False, 2, 2, "across"), ("2", 0, 2, 2, "across"), (2, "0", 2, 2, "across"), (2, 0, "2", 2, "across"),
            (2, 0, 2, "2", "across"), (2, None, 2, 2, "across"), (2, (0,), 2, 2, "across"), (2, [0], 2, 2, "across"),
            (2, 0, 2, 2, ("across",)), (2, 0, 2, 2, ["across"]), ((2, 0), (2, 2), "across"), ((2, 0, 2, 2, "across"),),
            [2, 0, 2, 2, "across"], [(2, 0, 2, 2, "across")], {2: 0}, {2: 1, 0: 1, 1: 1, 3: 1, "across": 1}, HALF, BOND,
        ]
        for value in wrong:
            self.refused((4, 2, 2), (0, 0, 2, 2, "down"), value)
            self.refused((4, 2, 2), value, (0, 0, 2, 2, "down"))
            self.refused((4, 2, 2), *HALF_BLOCKS, value)
            self.refused((4, 2, 2), value)

    def test_true_is_no_number_of_a_block(self):
        self.refused((2, 1, 2), (False, 0, 2, 1, "across"))
        self.refused((2, 1, 2), (0, False, 2, 1, "across"))
        self.refused((2, 1, 2), (0, 0, 2, True, "across"))
        self.refused((1, 2, 2), (0, 0, True, 2, "down"))
        self.refused((2, 2, 2), (0, 0, 1, 2, "down"), (True, 0, 1, 2, "down"))

    def test_blocks_left_out_or_doubled(self):
        self.refused((6, 5, 2))
        self.refused((2, 1, 2))
        for at, block in enumerate(BOND_BLOCKS):
            self.refused((6, 5, 2), *BOND_BLOCKS[:at], *BOND_BLOCKS[at + 1:])
            self.refused((6, 5, 2), *BOND_BLOCKS, block)
            self.refused((6, 5, 2), *BOND_BLOCKS[:at], *BOND_BLOCKS[at + 1:], BOND_BLOCKS[at - 1])

    def test_as_many_cells_as_the_size_but_not_each_once(self):
        self.refused((4, 2, 2), (0, 0, 2, 2, "down"), (0, 0, 2, 2, "across"))
        self.refused((4, 2, 2), (0, 0, 2, 2, "down"), (1, 0, 2, 2, "across"))
        self.refused((4, 4, 2), (0, 0, 4, 2, "across"), (0, 1, 4, 2, "across"))
        self.refused((4, 4, 2), (0, 0, 2, 4, "down"), (1, 0, 2, 4, "down"))
        self.refused((4, 4, 2), (0, 0, 4, 2, "down"), (2, 0, 2, 4, "down"))

    def test_a_cell_in_common_at_each_side_and_corner(self):
        # A cross and a corner: what two rectangles have in common need not hold a corner of either.
        self.refused((6, 6, 2), (0, 2, 6, 2, "across"), (2, 0, 2, 6, "down"), (0, 0, 2, 2, "down"))
        for x, y in ((1, 1), (3, 3), (1, 3), (3, 1), (2, 1), (2, 3), (1, 2), (3, 2), (2, 2)):
            rest = ((0, 0, 6, 1, "across"), (0, 5, 6, 1, "across"))
            self.refused((6, 6, 2), *rest, (2, 2, 2, 2, "across"), (x, y, 2, 2, "down"))

    def test_widths_and_heights(self):
        for wrong in (0, -1, -2, 1, 3, FORTY, -FORTY):
            self.refused((2, 2, 2), (0, 0, wrong, 2, "across"))
            self.refused((2, 2, 2), (0, 0, 2, wrong, "down"))
        for wrong in (0, -1, -2, 3, FORTY, -FORTY):
            self.refused((2, 2, 2), (0, 0, 2, wrong, "across"))
            self.refused((2, 2, 2), (0, 0, wrong, 2, "down"))
        self.refused((2, 2, 2), (0, 0, 2, 2, "across"), (0, 0, 0, 1, "across"))
        self.refused((2, 2, 2), (0, 0, 2, 2, "across"), (0, 0, 2, 0, "across"))
        self.refused((2, 2, 2), (0, 0, 2, 2, "down"), (1, 1, 0, 0, "down"))

    def test_multiples_of_the_length(self):
        self.refused((4, 3, 3), (0, 0, 4, 3, "across"))
        self.refused((3, 4, 3), (0, 0, 3, 4, "down"))
        self.refused((6, 2, 3), (0, 0, 2, 2, "across"), (2, 0, 4, 2, "across"))
        self.refused((2, 6, 3), (0, 0, 2, 2, "down"), (0, 2, 2, 4, "down"))
        self.refused((BIG, 3, 3), (0, 0, BIG, 3, "across"))
        self.assertEqual(len(Plan((BIG, 3, 3), (0, 0, BIG, 3, "down"))), 1)
        self.assertEqual(len(Plan((4, 3, 3), (0, 0, 4, 3, "down"))), 1)

    def test_blocks_that_stand_out(self):
        for x, y in ((-1, 0), (1, 0), (0, -1), (0, 1), (-2, 0), (2, 0), (0, -2), (0, 2), (FORTY, 0), (0, -FORTY)):
            for way in ("across", "down"):
                self.refused((2, 2, 2), (x, y, 2, 2, way))
        for width, height in ((4, 2), (2, 4), (4, 4), (4, 1), (1, 4)):
            for way in ("across", "down"):
                self.refused((2, 2, 2), (0, 0, width, height, way))
        self.refused((4, 2, 2), (0, 0, 2, 2, "across"), (3, 0, 2, 2, "across"))
        self.refused((2, 4, 2), (0, 0, 2, 2, "across"), (0, 3, 2, 2, "across"))
        self.refused((4, 2, 2), (-1, 0, 2, 2, "across"), (1, 0, 3, 2, "down"))

    def test_sizes_that_no_floor_has(self):
        self.refused((1, 1, 2))
        self.refused((3, 3, 2), (0, 0, 3, 3, "across"))
        self.refused((3, 3, 2), (0, 0, 2, 2, "across"), (2, 0, 1, 2, "down"), (0, 2, 2, 1, "across"))
        self.refused((2, 2, 3), (0, 0, 2, 2, "down"))

    def test_of_takes_a_tuple(self):
        wrong = [list(HALF_BLOCKS), {block: 1 for block in HALF_BLOCKS}, HALF, "across", 2, (HALF_BLOCKS,), [HALF_BLOCKS]]
        for blocks in wrong + odd_values():
            for size in ((4, 2, 2), blocks):
                with self.subTest(size=size, blocks=blocks), self.assertRaises(InvalidPlan):
                    Plan.of(size, blocks)
        self.assertRaises(InvalidPlan, Plan, (4, 2, 2), HALF_BLOCKS)
        self.assertRaises(InvalidPlan, Plan.of, (2, 1, 2), [(0, 0, 2, 1, "across")])

    def test_arguments_are_not_changed(self):
        size, blocks = [4, 2, 2], [(2, 0, 2, 2, "across"), [0, 0, 2, 2, "down"]]
        for _ in range(2):
            self.assertRaises(InvalidPlan, Plan.of, size, tuple(blocks))
            self.assertRaises(InvalidPlan, Plan.of, (4, 2, 2), blocks)
        self.assertEqual([size, blocks], [[4, 2, 2], [(2, 0, 2, 2, "across"), [0, 0, 2, 2, "down"]]])


class Crossed(unittest.TestCase):
    def test_each_line_against_the_floor(self):
        for plan in self.drawn_small():
            floor = plan.laid()
            for line in lines_of(plan.size):
                with self.subTest(size=plan.size, blocks=plan.blocks, line=line):
                    self.assertEqual(plan.crossings(line), crossings(floor, line))
                    self.assertIs(plan.is_seam(line), crossings(floor, line) == 0)
            self.assertEqual(plan.many_seams(), len(seams(floor)))
            self.assertEqual(plan.bars, len(floor))

    def drawn_small(self):
        numbers = Numbers(5)
        found = [BOND, HALF] + [drawn_plan(numbers, size) for size in DRAWN_SIZES for _ in range(4)]
        for size in DRAWN_SIZES:
            found += [plan for plan in [merged_plan(numbers, drawn_floor(numbers, size, 60)) for _ in range(3)] if plan]
        self.assertGreater(len(found), 120)
        return found

    def test_each_line_bar_by_bar_in_greater_plans(self):
        numbers = Numbers(6)
        for size in ((60, 41, 2), (41, 60, 2), (90, 60, 3), (77, 35, 7), (64, 64, 4), (100, 33, 5), (30, 120, 30)):
            for depth in (2, 3, 4, 5, 5):
                plan = drawn_plan(numbers, size, depth)
                found = []
                for line in lines_of(size):
                    known = counted_in_plan(plan, line)
                    with self.subTest(size=size, blocks=plan.blocks, line=line):
                        self.assertEqual(plan.crossings(line), known)
                        self.assertIs(plan.is_seam(line), known == 0)
                    if known == 0:
                        found.append(line)
                self.assertEqual(plan.many_seams(), len(found))
                for way, side in (("upright", size[0]), ("level", size[1])):
                    for first in list(range(side + 3)) + [FORTY]:
                        later = [c for w, c in found if w == way and c >= first]
                        self.assertEqual(plan.next_seam(way, first), later[0] if later else None)

    def test_great_sizes_by_remainders(self):
        # Where no block begins or ends, lines of one remainder have the same crossings: one of each is asked.
        numbers = Numbers(7)
        for size in ((BIG, BIG - 1, 5), (BIG - 1, BIG, 2), (BIG - 1, 6, 3), (BIG, BIG, 4), (7 * 10 ** 20, 10 ** 25 + 1, 7)):
            for depth in (1, 2, 3, 4, 5, 5, 5):
                plan = drawn_plan(numbers, size, depth)
                many = 0
                for way, side, place in (("upright", size[0], 0), ("level", size[1], 1)):
                    cuts = {c for block in plan.blocks for c in (block[place], block[place] + block[place + 2])}
                    cuts = sorted(cuts | {0, side})
                    many += sum(plan.crossings((way, c)) == 0 for c in cuts[1:-1])
                    for low, high in zip(cuts, cuts[1:]):
                        for c in range(low + 1, min(high, low + 1 + size[2])):
                            if plan.crossings((way, c)) == 0:
                                many += (high - 1 - c) // size[2] + 1
                with self.subTest(size=size, blocks=plan.blocks):
                    self.assertEqual(plan.many_seams(), many)
                    self.next_seams(plan, numbers)

    def next_seams(self, plan, numbers):
        for way, side in (("upright", plan.size[0]), ("level", plan.size[1])):
            for _ in range(10):
                first = numbers.below(side)
                c = plan.next_seam(way, first)
                if c is not None:
                    self.assertTrue(first <= c < side)
                    self.assertIs(plan.is_seam((way, c)), True)
                for passed in range(max(first, 1), min(side if c is None else c, first + 30)):
                    self.assertIs(plan.is_seam((way, passed)), False)
                if c is not None:
                    self.assertEqual([plan.next_seam(way, c), plan.next_seam(way, max(first, c - 1))], [c, c])

    def test_crossings_of_great_plans(self):
        plan = Plan((BIG, BIG, 10), (0, 0, BIG, 7, "across"), (0, 7, 3, BIG - 10, "down"), (3, 7, BIG - 10, BIG - 10, "across"),
                    (BIG - 7, 7, 7, BIG - 10, "down"), (0, BIG - 3, BIG, 3, "across"))
        self.assertEqual(plan.crossings(("upright", 1)), 10)
        self.assertEqual(plan.crossings(("upright", 3)), 10)
        self.assertEqual(plan.crossings(("upright", 4)), BIG)
        self.assertEqual(plan.crossings(("upright", 10)), BIG - 10)
        self.assertEqual(plan.crossings(("upright", 13)), 10)
        self.assertEqual(plan.crossings(("upright", BIG // 2)), BIG - 10)
        self.assertEqual([plan.crossings(("level", c)) for c in (1, 7, 8, 17, 18, BIG - 3)], [0, 0, 10, 0, 10, 0])
        # Level seams: 1 to 7, then each tenth up to the row BIG - 3, and the two below.
        self.assertEqual(plan.many_seams(), 7 + (BIG - 10) // 10 + 2)
        self.assertEqual([plan.next_seam("level", c) for c in (0, 8, 18, BIG - 12, BIG - 2, BIG - 1, BIG)],
                         [1, 17, 27, BIG - 3, BIG - 2, BIG - 1, None])
        self.assertIs(plan.next_seam("upright", 0), None)

    def test_seams_far_from_the_ends_of_blocks(self):
        length = 10 ** 15
        # Two rows of bars that begin at places apart meet at no line; those that begin alike at each multiple.
        apart = Plan((BIG, 2 * length, length), (0, 0, BIG, length, "across"), (0, length, 1, length, "down"),
                     (1, length, BIG - length, length, "across"), (BIG - length + 1, length, length - 1, length, "down"))
        self.assertIs(apart.next_seam("upright", 0), None)
        self.assertEqual([apart.many_seams(), apart.next_seam("level", length), apart.next_seam("level", length + 1)],
                         [length, length, None])
        alike = Plan((BIG, 2 * length, length), (0, 0, BIG, length, "across"), (0, length, length, length, "down"),
                     (length, length, BIG - length, length, "across"))
        self.assertEqual(alike.many_seams(), BIG // length - 1 + length)
        self.assertEqual(alike.next_seam("upright", length + 1), 2 * length)
        self.assertEqual(alike.next_seam("upright", BIG - length), BIG - length)
        self.assertIs(alike.next_seam("upright", BIG - length + 1), None)
        self.assertEqual(alike.next_seam("upright", 5 * 10 ** 29 + 1), 5 * 10 ** 29 + length)

    def test_seams_that_begin_behind_where_bars_stand_apart(self):
        # Above, bars begin at 1, 4, 7 .. 3n + 1 and then, behind two columns down, at 3n + 3; below at 0, 3, 6 ..
        n = 10 ** 20
        width = 6 * n + 3
        plan = Plan((width, 6, 3), (0, 0, 1, 3, "down"), (1, 0, 3 * n, 3, "across"), (3 * n + 1, 0, 2, 3, "down"),
                    (3 * n + 3, 0, 3 * n, 3, "across"), (0, 3, width, 3, "across"))
        self.assertEqual(plan.next_seam("upright", 0), 3 * n + 3)
        self.assertEqual(plan.next_seam("upright", 3 * n + 4), 3 * n + 6)
        self.assertEqual(plan.next_seam("upright", width - 4), width - 3)
        self.assertEqual(plan.next_seam("upright", width - 2), None)
        self.assertEqual(plan.many_seams(), n + 3)
        self.assertEqual([plan.next_seam("level", c) for c in (0, 3, 4, 5, 6)], [3, 3, 4, 5, None])

    def test_columns_of_bars_down_are_seams_between_them(self):
        plan = Plan((BIG, 3, 3), (0, 0, BIG, 3, "down"))
        self.assertEqual(plan.many_seams(), BIG - 1)
        for c in (0, 1, 2, BIG // 2, BIG - 1):
            self.assertEqual(plan.next_seam("upright", c), max(c, 1))
        self.assertEqual([plan.next_seam("upright", BIG), plan.next_seam("level", 0)], [None, None])

    def test_one_bar(self):
        for plan in (Plan((BIG, 1, BIG), (0, 0, BIG, 1, "across")), Plan((1, 2, 2), (0, 0, 1, 2, "down"))):
            self.assertEqual([plan.many_seams(), plan.bars, len(plan)], [0, 1, 1])
            for way in ("upright", "level"):
                self.assertIs(plan.next_seam(way, 0), None)
        self.assertEqual(Plan((BIG, 1, BIG), (0, 0, BIG, 1, "across")).crossings(("upright", 7)), 1)

    def test_next_seam_at_and_behind_the_last_line(self):
        rows = Plan((2, 4, 2), (0, 0, 2, 4, "across"))
        self.assertEqual([rows.next_seam("level", c) for c in (0, 1, 2, 3, 4, 5, 99, BIG, FORTY)], [1, 1, 2, 3] + [None] * 5)
        self.assertEqual([LONG.next_seam("upright", c) for c in (0, 1, 2, 3, BIG - 3, BIG - 2, BIG - 1, BIG, BIG + 1, FORTY)],
                         [2, 2, 2, 4, BIG - 2, BIG - 2, None, None, None, None])
        self.assertEqual([LONG.next_seam("level", c) for c in (0, 1, 2, FORTY)], [1, 1, None, None])

    def test_kinds(self):
        self.assertEqual([type(LONG.many_seams()), type(LONG.next_seam("level", 0)), type(HALF.crossings(("level", 1)))],
                         [int, int, int])

    def test_what_is_no_line(self):
        wrong = odd_values() + [
            0, "upright", ("upright",), ("upright", 1, 1), ("upright", True), ("upright", "1"), ["upright", 1],
            ("across", 1), (1, "upright"), ("upright", 0), ("level", 0), ("upright", 4), ("level", 2), ("upright", -1),
            ("upright", FORTY), ("level", -FORTY), {"upright": 1}, (("upright", 1),), ("upright", (1,)), HALF, (HALF, 1),
        ]
        for line in wrong:
            with self.subTest(line=line):
                self.assertRaises(InvalidLine, HALF.crossings, line)
                self.assertRaises(InvalidLine, HALF.is_seam, line)
        for line in (("upright", BIG), ("upright", 0), ("level", 2)):
            self.assertRaises(InvalidLine, LONG.crossings, line)
            self.assertRaises(InvalidLine, LONG.is_seam, line)

    def test_next_seam_of_what_is_no_way(self):
        wrong = [0, 1, "across", "down", "Upright", "upright ", "", ("upright",), ["level"], {"level": 1}, HALF]
        for way in wrong + odd_values():
            for first in (0, -1, None, way):
                with self.subTest(way=way, first=first), self.assertRaises(InvalidOperation):
                    HALF.next_seam(way, first)

    def test_next_seam_from_what_is_no_number(self):
        for first in odd_values() + ["0", (0,), [0], {0: 0}, -1, -FORTY, HALF]:
            for way in ("upright", "level"):
                with self.subTest(way=way, first=first), self.assertRaises(InvalidNumber) as raised:
                    HALF.next_seam(way, first)
                self.assertEqual(raised.exception.value, first)
                self.assertIs(type(raised.exception.value), type(first))


class Changed(unittest.TestCase):
    def test_exchanged(self):
        for plan in PLANS:
            width, height, length = plan.size
            other = plan.exchanged()
            ways = {"across": "down", "down": "across"}
            with self.subTest(str(plan)):
                self.assertEqual(other.size, (height, width, length))
                self.assertEqual(other.blocks, tuple(sorted((y, x, h, w, ways[way]) for x, y, w, h, way in plan.blocks)))
                self.assertEqual(other.exchanged(), plan)
                self.assertEqual(other.many_seams(), plan.many_seams())
        self.assertEqual(BOND.exchanged().laid(), BOND.laid().exchanged())
        self.assertEqual(HALF.exchanged().blocks, ((0, 0, 2, 2, "across"), (0, 2, 2, 2, "down")))

    def test_laid(self):
        self.assertEqual(BOND.laid(), five())
        self.assertEqual(HALF.laid().bars, ((0, 0, "down"), (1, 0, "down"), (2, 0, "across"), (2, 1, "across")))
        self.assertEqual(Plan((6, 4, 2), (0, 0, 6, 4, "across")).laid(), Floor.plain((6, 4, 2)))
        self.assertIsInstance(HALF.laid(), Floor)
        self.assertEqual(Plan((1, 3, 3), (0, 0, 1, 3, "down")).laid().bars, ((0, 0, "down"),))

    def test_laid_bars_lie_in_their_blocks(self):
        numbers = Numbers(8)
        for size in DRAWN_SIZES:
            plan = drawn_plan(numbers, size)
            floor = plan.laid()
            self.assertEqual(floor.size, size)
            for x, y, width, height, way in plan.blocks:
                rectangle = {(a, b) for a in range(x, x + width) for b in range(y, y + height)}
                for a, b in rectangle:
                    bar = floor.bar_at(a, b)
                    self.assertEqual(bar[2], way)
                    self.assertTrue(rectangle.issuperset(cells(bar, size[2])))

    def test_laid_with_more_than_400_cells(self):
        self.assertEqual(len(Plan((20, 20, 2), (0, 0, 20, 20, "down")).laid()), 200)
        self.assertEqual(len(Plan((1, 400, 400), (0, 0, 1, 400, "down")).laid()), 1)
        for plan in (Plan((401, 1, 401), (0, 0, 401, 1, "across")), Plan((21, 20, 2), (0, 0, 21, 20, "down")), LONG):
            with self.subTest(str(plan)), self.assertRaises(TooMany) as raised:
                plan.laid()
            self.assertEqual(raised.exception.limit, 400)

    def test_the_plan_itself_stays(self):
        plan = Plan((4, 2, 2), *HALF_BLOCKS)
        for _ in range(2):
            plan.exchanged()
            plan.laid()
            self.assertRaises(InvalidLine, plan.crossings, None)
            self.assertRaises(InvalidNumber, plan.next_seam, "level", -1)
            self.assertEqual([plan.size, plan.blocks, plan.many_seams(), plan], [(4, 2, 2), HALF_BLOCKS, 2, HALF])


class Compared(unittest.TestCase):
    def test_len_and_str(self):
        self.assertEqual([len(plan) for plan in PLANS], [2, 1, 11, 1, 1, 1, 1, 2, 1])
        self.assertEqual(str(BOND), "plan of 6 by 5 cells, 11 blocks")
        self.assertEqual(str(Plan((2, 1, 2), (0, 0, 2, 1, "across"))), "plan of 2 by 1 cells, 1 blocks")
        self.assertEqual(str(LONG), "plan of 1" + 30 * "0" + " by 2 cells, 1 blocks")

    def test_in(self):
        for block in BOND_BLOCKS:
            self.assertIs(block in BOND, True)
            self.assertIs(block not in BOND, False)
        self.assertIs((0, 0, BIG, 2, "across") in LONG, True)
        wrong = odd_values() + [
            0, "down", (0, 0, 1, 2), (0, 0, 1, 2, "down", 1), [0, 0, 1, 2, "down"], (0, 0, 1, 2, "across"), (0, 0, "down"),
            (False, 0, 1, 2, "down"), (0, False, 1, 2, "down"), (0, 0, True, 2, "down"), ((0, 0, 1, 2, "down"),),
            (0, 0, 1, 2, ["down"]), (0, 0, 1, 2, None), (0, 0, 2, 2, "down"), (1, 0, 1, 2, "down"), BOND, BOND_BLOCKS,
            ("0", 0, 1, 2, "down"), (0, [], 1, 2, "down"), (BOND, 0, 1, 2, "down"), {0: 0}, (FORTY, 0, 1, 2, "down"),
        ]
        for value in wrong:
            with self.subTest(value=value):
                self.assertIs(value in BOND, False)
                self.assertIs(value not in BOND, True)

    def same(self, one, other, equal):
        for left, right in ((one, other), (other, one)):
            self.assertIs(left == right, equal)
            self.assertIs(left != right, not equal)

    def test_equal(self):
        self.same(HALF, Plan((4, 2, 2), *HALF_BLOCKS[::-1]), True)
        self.same(HALF, Plan.of((4, 2, 2), HALF_BLOCKS), True)
        self.same(BOND, BOND, True)
        self.same(LONG, Plan((BIG, 2, 2), (0, 0, BIG, 2, "across")), True)

    def test_not_equal(self):
        for at, one in enumerate(PLANS):
            for other in PLANS[at + 1:]:
                self.same(one, other, False)
        # The same floor by other blocks, and the same blocks by another size.
        one, two = PLANS[6:8]
        self.assertEqual(one.laid(), two.laid())
        self.same(one, two, False)
        self.same(Plan((4, 2, 2), (0, 0, 4, 2, "across")), Plan((4, 2, 4), (0, 0, 4, 2, "across")), False)

    def test_other_values(self):
        others = [0, 4, str(HALF), HALF.size, HALF_BLOCKS, list(HALF_BLOCKS), (HALF.size, HALF_BLOCKS), HALF.laid()]
        for value in others + odd_values():
            with self.subTest(value=value):
                self.same(HALF, value, False)
        self.assertIs(HALF in (None, 1, five(), Plan((4, 2, 2), *HALF_BLOCKS)), True)

    def test_cannot_be_iterated_over(self):
        for call in (iter, list, tuple, sorted, lambda plan: [block for block in plan], lambda plan: (*plan,)):
            with self.assertRaises(TypeError):
                call(HALF)

    def test_properties_are_only_read(self):
        for name in ("size", "blocks", "bars"):
            with self.subTest(name), self.assertRaises(AttributeError):
                setattr(HALF, name, 1)

    def test_plans_are_no_floors(self):
        self.assertRaises(helper.errors.InvalidFloor, crossings, HALF, ("upright", 1))
        self.assertIs(HALF == HALF.laid(), False)


class Examples(unittest.TestCase):
    def test_first(self):
        half = Plan((4, 2, 2), (2, 0, 2, 2, "across"), (0, 0, 2, 2, "down"))
        self.assertEqual(
            [half.blocks[0], half.bars, half.crossings(("level", 1)), half.many_seams(), half.next_seam("upright", 2),
             half.next_seam("upright", 3)],
            [(0, 0, 2, 2, "down"), 4, 2, 2, 2, None],
        )

    def test_second(self):
        self.assertEqual(
            [LONG.many_seams(), LONG.next_seam("upright", 3), LONG.is_seam(("level", 1)), LONG.bars],
            [500000000000000000000000000000, 4, True, 1000000000000000000000000000000],
        )


if __name__ == "__main__":
    unittest.main()
