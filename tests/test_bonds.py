"""Stage 7: bonds for all sizes, [7.1], with [0.11]."""

import unittest
from itertools import product

from bondfloors.errors import InvalidSize, Unlaid
from bondfloors.lines.crossings import is_bond
from bondfloors.plans import bonds
from bondfloors.plans.bonds import bond_paper, bond_plan, is_bond_paper
from bondfloors.plans.plans import Plan
from bondfloors.sizes.verdicts import is_reason
from tests import helper
from tests.drawn import seams_counted
from tests.helper import BIG, cells, five, odd_values
from tests.test_verdicts import NO_REASONS, NO_SIZES, SMALL, bond_by_the_words

BOND = Plan((6, 5, 2), *[(x, y, 2, 1, way) if way == "across" else (x, y, 1, 2, way) for x, y, way in helper.FIVE_BARS])
GREAT = (
    (BIG, BIG - 1, 10), (BIG - 1, BIG, 10), (BIG, BIG, 2), (BIG, BIG, 10 ** 20), (BIG, 5, 2), (5, BIG, 2), (BIG, 6, 2), (6, BIG, 2),
    (BIG - 1, 7, 3), (7, BIG - 1, 3), (BIG, 21, 10), (9 * 10 ** 29, 10 ** 30, 3 * 10 ** 29), (BIG, 1, BIG), (1, BIG, BIG),
    (BIG - 1, BIG - 1, 9), (BIG, 10 ** 25 + 7, 10 ** 12), (10 ** 25 + 7, BIG, 10 ** 12), (BIG, BIG - 2, 4), (BIG - 1, BIG, 2),
)


def counted_bars(plan):
    """The bars of a small plan, each cell of which has to be covered just once."""
    width, height, length = plan.size
    bars = []
    for x, y, wide, high, way in plan.blocks:
        steps = (range(x, x + wide, length), range(y, y + high)) if way == "across" else (range(x, x + wide), range(y, y + high, length))
        bars += [(a, b, way) for a, b in product(*steps)]
    covered = sorted(cell for bar in bars for cell in cells(bar, length))
    return bars if covered == sorted(product(range(width), range(height))) else None


class Plans(unittest.TestCase):
    def test_small_sizes(self):
        for size in SMALL + tuple(product(range(13, 19), range(5, 19), (2, 3, 4, 5, 6))):
            with self.subTest(size=size):
                if not bond_by_the_words(size):
                    with self.assertRaises(Unlaid) as raised:
                        bond_plan(size)
                    self.assertEqual(raised.exception.value, size)
                    continue
                plan = bond_plan(size)
                self.assertIsInstance(plan, Plan)
                self.assertEqual([plan.size, plan.many_seams()], [size, 0])
                bars = counted_bars(plan)
                self.assertIsNotNone(bars)
                self.assertEqual(seams_counted(size, bars), 0)
                if size[0] * size[1] <= 400:
                    self.assertIs(is_bond(plan.laid()), True)
                    self.assertEqual(plan.laid().bars, tuple(sorted(bars)))

    def test_great_sizes(self):
        for size in GREAT:
            with self.subTest(size=size):
                plan = bond_plan(size)
                self.assertEqual([plan.size, plan.many_seams()], [size, 0])
                self.assertEqual([plan.next_seam("upright", 0), plan.next_seam("level", 0)], [None, None])
                self.assertLessEqual(len(plan), 64)

    def test_one_bar(self):
        self.assertEqual(bond_plan((7, 1, 7)).blocks, ((0, 0, 7, 1, "across"),))
        self.assertEqual(bond_plan((1, 2, 2)).blocks, ((0, 0, 1, 2, "down"),))
        self.assertEqual(bond_plan((BIG, 1, BIG)).blocks, ((0, 0, BIG, 1, "across"),))

    def test_sizes_without_a_bond(self):
        for size in ((6, 6, 2), (4, 4, 2), (3, 3, 2), (BIG, 4, 2), (BIG, BIG, 3), (1, 1, 2), (14, 1, 7), (BIG, BIG, BIG), (2, 2, BIG)):
            with self.subTest(size=size), self.assertRaises(Unlaid) as raised:
                bond_plan(size)
            self.assertEqual(raised.exception.value, size)

    def test_what_is_no_size(self):
        for size in NO_SIZES:
            with self.subTest(size=size):
                self.assertRaises(InvalidSize, bond_plan, size)
                self.assertRaises(InvalidSize, bond_paper, size)
                for value in (None, ("reason", ("few",)), size):
                    self.assertRaises(InvalidSize, is_bond_paper, size, value)


class Papers(unittest.TestCase):
    def test_just_one_kind_for_each_size(self):
        for size in SMALL + GREAT + ((BIG, 4, 2), (BIG, BIG, 3), (2, 2, BIG), (BIG, 2, BIG)):
            with self.subTest(size=size):
                paper = bond_paper(size)
                self.assertEqual([type(paper), len(paper)], [tuple, 2])
                kind, told = paper
                if bond_by_the_words(size):
                    self.assertEqual([kind, told.size, told.many_seams()], ["plan", size, 0])
                else:
                    self.assertEqual([kind, is_reason(size, told)], ["reason", True])
                self.assertIs(is_bond_paper(size, paper), True)

    def test_any_right_paper(self):
        self.assertIs(is_bond_paper((6, 5, 2), ("plan", BOND)), True)
        self.assertIs(is_bond_paper((6, 5, 2), ("plan", bond_plan((6, 5, 2)))), True)
        self.assertIs(is_bond_paper((5, 6, 2), ("plan", BOND.exchanged())), True)
        for told in (("narrow",), ("few",)):
            self.assertIs(is_bond_paper((4, 4, 2), ("reason", told)), True)
        for told in (("narrow",), ("weights", 0, 1), ("weights", 1, 0)):
            self.assertIs(is_bond_paper((3, 3, 2), ("reason", told)), True)
        long = Plan((BIG, 1, BIG), (0, 0, BIG, 1, "across"))
        self.assertIs(is_bond_paper((BIG, 1, BIG), ("plan", long)), True)

    def test_papers_of_other_sizes_and_plans_with_seams(self):
        seamy = Plan((6, 5, 2), (0, 0, 6, 5, "across"))
        for size, value in (
            ((5, 6, 2), ("plan", BOND)), ((8, 5, 2), ("plan", BOND)), ((6, 5, 3), ("plan", BOND)), ((6, 6, 2), ("plan", BOND)),
            ((6, 5, 2), ("plan", seamy)), ((6, 6, 2), ("plan", Plan((6, 6, 2), (0, 0, 6, 6, "down")))),
            ((8, 6, 2), ("plan", bond_plan((6, 8, 2)))), ((6, 5, 2), ("reason", ("few",))), ((6, 5, 2), ("reason", ("narrow",))),
            ((6, 6, 2), ("reason", ("narrow",))), ((3, 3, 2), ("reason", ("few",))), ((3, 3, 2), ("reason", ("weights", 0, 0))),
            ((6, 5, 2), ("reason", None)), ((6, 5, 2), ("plan", None)), ((3, 3, 2), ("plan", None)),
        ):
            with self.subTest(size=size, value=value):
                self.assertIs(is_bond_paper(size, value), False)

    def test_what_is_no_paper(self):
        plan, why = bond_plan((6, 5, 2)), ("few",)
        wrong = odd_values() + [
            0, "plan", "reason", plan, why, ("plan",), ("reason",), ("plan", plan, 1), ("reason", why, 1), ["plan", plan],
            ["reason", why], {"plan": plan}, {"reason": why}, ("reason", plan), ("plan", why), ("Plan", plan), ("Reason", why),
            (plan, "plan"), (why, "reason"), ("plan", (plan,)), ("reason", (why,)), ("reason", "few"), ("reason", ["few"]),
            ("plan", plan.laid()), ("plan", five()), ("plan", plan.blocks), ("plan", (plan.size,) + plan.blocks), (1, why),
            (("plan", plan),), ("plan", [plan]), (True, plan), (None, plan), ("", plan), (["plan"], plan), (("plan",), plan),
            ("plan", str(plan)), ("reason", plan, why), ("bond", plan), (plan, plan), (why, why),
        ]
        for value in wrong + [("reason", value) for value in NO_REASONS] + [("plan", value) for value in odd_values()]:
            for size in ((6, 5, 2), (6, 6, 2), (3, 3, 2)):
                with self.subTest(size=size, value=value):
                    self.assertIs(is_bond_paper(size, value), False)

    def test_values_stay(self):
        value = ["plan", [BOND]]
        is_bond_paper((6, 5, 2), value)
        self.assertEqual(value, ["plan", [BOND]])
        self.assertEqual(bond_plan((6, 5, 2)), bond_plan((6, 5, 2)))

    def test_defined_in_this_module(self):
        for name in ("bond_plan", "bond_paper", "is_bond_paper"):
            self.assertEqual(getattr(bonds, name).__module__, "bondfloors.plans.bonds")


class Examples(unittest.TestCase):
    def test_first(self):
        self.assertEqual(
            [bond_plan((6, 5, 2)).many_seams(), is_bond(bond_plan((8, 6, 2)).laid()),
             bond_plan((10 ** 30, 10 ** 30 - 1, 10)).many_seams(), bond_paper((3, 9, 3))[0]],
            [0, True, 0, "reason"],
        )

    def test_second(self):
        self.assertEqual(
            [is_bond_paper((6, 6, 2), ("reason", ("few",))),
             is_bond_paper((7, 1, 7), ("plan", Plan((7, 1, 7), (0, 0, 7, 1, "across"))))],
            [True, True],
        )


if __name__ == "__main__":
    unittest.main()
