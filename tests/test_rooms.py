"""Stage 10: floors put together, with [0.8] and [0.16]."""

import unittest

from bondfloors.base.floors import Floor
from bondfloors.errors import InvalidFloor, TooMany
from bondfloors.grow import rooms as module
from bondfloors.grow.rooms import above, beside, is_tree, put_together, room_list, rooms
from bondfloors.lines.crossings import is_bond, profile, seams
from bondfloors.plans.bonds import bond_plan
from bondfloors.plans.plans import Plan
from tests.drawn import DRAWN_SIZES, Numbers, drawn_floor, drawn_plan, every_floor
from tests.helper import BIG, FORTY, cells, five, floor_of, nested, odd_values

FIVE = five()
BAR = Floor.plain((2, 1, 2))
POST = Floor.plain((1, 2, 2))
TWO = Floor.plain((2, 2, 2))
HALF = Plan((4, 2, 2), (2, 0, 2, 2, "across"), (0, 0, 2, 2, "down"))
HALF_TREE = ("beside", POST, POST, ("above", BAR, BAR))
NO_FLOORS = [value for value in odd_values() if not isinstance(value, Floor)] + [
    0, 1, FIVE.size, FIVE.bars, str(FIVE), "beside", "above", HALF, [FIVE], (FIVE,), (FIVE, FIVE), {"floor": FIVE}, HALF_TREE,
]


def moved(floor, x, y):
    """The bars of a floor that stands with its first cell at (x, y)."""
    return [(a + x, b + y, way) for a, b, way in floor.bars]


def cut_by_cells(floor, way):
    """The floors between the lines that no two cells of one bar lie on both sides of, with their places."""
    width, height, length = floor.size
    side = width if way == "beside" else height
    at = 0 if way == "beside" else 1
    cuts = [0] + [c for c in range(1, side) if not any(
        {cell[at] < c for cell in cells(bar, length)} == {True, False} for bar in floor.bars)] + [side]
    parts = []
    for first, end in zip(cuts, cuts[1:]):
        if way == "beside":
            bars = [(x - first, y, laid) for x, y, laid in floor.bars if first <= x < end]
            parts.append((first, 0, Floor((end - first, height, length), *bars)))
        else:
            bars = [(x, y - first, laid) for x, y, laid in floor.bars if first <= y < end]
            parts.append((0, first, Floor((width, end - first, length), *bars)))
    return parts


def tree_by_cells(floor):
    for way in ("beside", "above"):
        parts = cut_by_cells(floor, way)
        if len(parts) > 1:
            return (way,) + tuple(tree_by_cells(part) for _, _, part in parts)
    return floor


def leaves(tree):
    if isinstance(tree, Floor):
        return [tree]
    return [leaf for part in tree[1:] for leaf in leaves(part)]


def depth(tree):
    return 0 if isinstance(tree, Floor) else 1 + max(depth(part) for part in tree[1:])


def branches(tree):
    """The tree and all trees within it, each with what puts another value in its place."""
    yield tree, lambda value: value
    if isinstance(tree, tuple):
        for at in range(1, len(tree)):
            for branch, put in branches(tree[at]):
                yield branch, lambda value, at=at, put=put: tree[:at] + (put(value),) + tree[at + 1:]


def drawn(seed, many=2):
    """Floors with few and with many seams."""
    numbers = Numbers(seed)
    found = [drawn_floor(numbers, size, turns) for size in DRAWN_SIZES for turns in (3, 20, 300) for _ in range(many)]
    found += [drawn_plan(numbers, size, depth).laid() for size in DRAWN_SIZES for depth in (2, 4, 6) for _ in range(many)]
    return found


class PutTogether(unittest.TestCase):
    def test_by_hand(self):
        self.assertEqual(beside(POST, POST), floor_of(2, ("vv", "||")))
        self.assertEqual(above(BAR, BAR), floor_of(2, (">-", ">-")))
        self.assertEqual(beside(POST, TWO, POST), floor_of(2, ("v>-v", "|>-|")))
        self.assertEqual(above(BAR, floor_of(2, ("vv", "||")), BAR), floor_of(2, (">-", "vv", "||", ">-")))
        self.assertEqual(beside(POST, POST, TWO), HALF.laid())
        self.assertEqual(beside(TWO, POST), floor_of(2, (">-v", ">-|")))
        self.assertEqual(beside(FIVE, FIVE.mirrored()), floor_of(2, (
            "v>-v>->-v>-v", "|>-|vvvv|>-|", "vv>-||||>-vv", "||v>-vv>-v||", ">-|>-||>-|>-")))
        self.assertEqual(above(floor_of(3, ("v>--", "|>--", "|>--")), floor_of(3, (">--v", ">--|", ">--|"))),
                         floor_of(3, ("v>--", "|>--", "|>--", ">--v", ">--|", ">--|")))

    def test_one_floor(self):
        for floor in (FIVE, BAR, POST, HALF.laid(), Floor.plain((20, 20, 2))):
            self.assertEqual([beside(floor), above(floor)], [floor, floor])

    def test_parts_of_unlike_widths_or_heights(self):
        wide = beside(FIVE, Floor.plain((2, 5, 2)), Floor.plain((8, 5, 2)))
        self.assertEqual([wide.size, len(wide)], [(16, 5, 2), 40])
        high = above(FIVE, Floor.plain((6, 1, 2)), Floor.plain((6, 3, 2)))
        self.assertEqual([high.size, len(high)], [(6, 9, 2), 27])

    def test_drawn_floors_bar_by_bar(self):
        numbers = Numbers(41)
        for length in (2, 3, 4, 5):
            for _ in range(30):
                height = 1 + numbers.below(9)
                wide = [width for width in range(1, 13) if width % length == 0 or height % length == 0]
                parts = [drawn_floor(numbers, (wide[numbers.below(len(wide))], height, length), 40)
                         for _ in range(1 + numbers.below(3))]
                floor = beside(*parts)
                bars, ups, left = [], [], 0
                for part in parts:
                    bars += moved(part, left, 0)
                    ups += [0] * (left > 0) + list(profile(part)[0])
                    left += part.width
                with self.subTest(sizes=[part.size for part in parts]):
                    self.assertEqual([floor.size, floor.bars], [(left, height, length), tuple(sorted(bars))])
                    levels = tuple(sum(counts) for counts in zip(*[profile(part)[1] for part in parts]))
                    self.assertEqual(profile(floor), (tuple(ups), levels))
                    common = set.intersection(*[{c for way, c in seams(part) if way == "level"} for part in parts])
                    self.assertEqual({c for way, c in seams(floor) if way == "level"}, common)
                    self.assertEqual(above(*[part.exchanged() for part in parts]), floor.exchanged())
                    self.assertEqual(sorted(above(*[part.exchanged() for part in parts]).bars), sorted(floor.exchanged().bars))

    def test_drawn_floors_one_above_the_other(self):
        numbers = Numbers(42)
        for _ in range(60):
            length = 2 + numbers.below(3)
            width = length * (1 + numbers.below(3))
            parts = [drawn_floor(numbers, (width, 1 + numbers.below(7), length), 40) for _ in range(1 + numbers.below(4))]
            floor = above(*parts)
            bars, top = [], 0
            for part in parts:
                bars += moved(part, 0, top)
                top += part.height
            self.assertEqual([floor.size, floor.bars], [(width, top, length), tuple(sorted(bars))])

    def test_just_400_cells_and_more(self):
        self.assertEqual(beside(*[Floor.plain((2, 20, 2))] * 10), Floor.plain((20, 20, 2)))
        self.assertEqual(above(*[Floor.plain((40, 1, 2))] * 10), Floor.plain((40, 10, 2)))
        self.assertEqual(beside(*[BAR] * 200), Floor.plain((400, 1, 2)))
        self.assertEqual(above(*[POST] * 200), Floor.plain((1, 400, 2)))
        self.assertEqual(above(Floor.plain((20, 19, 5)), Floor.plain((20, 1, 5))), Floor.plain((20, 20, 5)))
        great = Floor.plain((20, 20, 2))
        for call, floors in (
            (beside, [BAR] * 201), (above, [POST] * 201), (beside, [Floor.plain((2, 20, 2))] * 11), (beside, [great, great]),
            (above, [great, great]), (above, [great, Floor.plain((20, 1, 2))]), (beside, [Floor.plain((1, 20, 2)), great]),
            (beside, [Floor.plain((400, 1, 2)), BAR]), (above, [Floor.plain((400, 1, 400)), Floor.plain((400, 1, 400))]),
        ):
            with self.subTest(many=len(floors)), self.assertRaises(TooMany) as raised:
                call(*floors)
            self.assertEqual(raised.exception.limit, 400)

    def refused(self, call, *floors):
        with self.subTest(call=call.__name__, floors=floors), self.assertRaises(InvalidFloor):
            call(*floors)

    def test_none(self):
        self.refused(beside)
        self.refused(above)

    def test_unlike_floors(self):
        three = Floor.plain((3, 2, 3))
        self.refused(beside, TWO, three)
        self.refused(beside, three, TWO)
        self.refused(above, Floor.plain((6, 1, 2)), Floor.plain((6, 1, 3)))
        self.refused(beside, BAR, POST)
        self.refused(above, BAR, POST)
        self.refused(beside, FIVE, FIVE.exchanged())
        self.refused(above, FIVE, FIVE.exchanged())
        self.refused(beside, TWO, TWO, BAR)
        self.refused(above, TWO, TWO, POST)
        # Equal widths do not help floors that stand side by side, nor equal heights those one above the other.
        self.refused(beside, FIVE, Floor.plain((6, 4, 2)))
        self.refused(above, FIVE, Floor.plain((4, 5, 2)))

    def test_wrong_floors(self):
        for value in NO_FLOORS:
            for call in (beside, above):
                self.refused(call, value)
                self.refused(call, value, FIVE)
                self.refused(call, FIVE, value)
                self.refused(call, FIVE, FIVE, value, FIVE)
                self.refused(call, value, value)

    def test_what_is_wrong_comes_before_too_many(self):
        great = Floor.plain((20, 20, 2))
        for call in (beside, above):
            self.refused(call, great, great, None)
            self.refused(call, great, great, BAR)
            self.refused(call, great, great, Floor.plain((20, 20, 4)))

    def test_floors_stay(self):
        floor = five()
        for _ in range(2):
            beside(floor, floor)
            above(floor, floor)
            self.assertRaises(InvalidFloor, beside, floor, BAR)
            self.assertEqual([floor, floor.bars], [FIVE, FIVE.bars])


class Trees(unittest.TestCase):
    def test_a_bond_is_its_own_tree(self):
        for floor in (FIVE, BAR, POST, Floor.plain((400, 1, 400)), bond_plan((9, 7, 3)).laid(), bond_plan((20, 20, 2)).laid()):
            self.assertEqual(rooms(floor), floor)
            self.assertIsInstance(rooms(floor), Floor)
            self.assertIs(is_tree(floor), True)
            self.assertEqual(put_together(floor), floor)
            self.assertEqual(room_list(floor), ((0, 0, floor),))

    def test_by_hand(self):
        self.assertEqual(rooms(TWO), ("above", BAR, BAR))
        self.assertEqual(rooms(TWO.exchanged()), ("beside", POST, POST))
        self.assertEqual(rooms(HALF.laid()), HALF_TREE)
        self.assertEqual(rooms(Floor.plain((4, 1, 2))), ("beside", BAR, BAR))
        self.assertEqual(rooms(Floor.plain((1, 6, 2))), ("above", POST, POST, POST))
        self.assertEqual(rooms(Floor.plain((4, 2, 2))), ("beside", ("above", BAR, BAR), ("above", BAR, BAR)))
        self.assertEqual(rooms(above(FIVE, FIVE, Floor.plain((6, 1, 2)))), ("above", FIVE, FIVE, ("beside", BAR, BAR, BAR)))
        self.assertEqual(rooms(beside(FIVE, FIVE)), ("beside", FIVE, FIVE))
        # Both kinds of seams: upright ones come first.
        self.assertEqual(rooms(beside(above(FIVE, FIVE), above(FIVE.mirrored(), FIVE))),
                         ("beside", ("above", FIVE, FIVE), ("above", FIVE.mirrored(), FIVE)))
        self.assertEqual(rooms(above(TWO.exchanged(), BAR)), ("above", ("beside", POST, POST), BAR))
        three = floor_of(3, ("v>--", "|>--", "|>--", ">--v", ">--|", ">--|"))
        row, pole = Floor.plain((3, 1, 3)), Floor.plain((1, 3, 3))
        self.assertEqual(rooms(three), ("above", ("beside", pole, ("above", row, row, row)), ("beside", ("above", row, row, row), pole)))

    def test_kinds(self):
        for tree in (rooms(HALF.laid()), rooms(Floor.plain((20, 20, 2)))):
            self.assertEqual({type(tree), type(tree[0]), type(tree[-1])}, {tuple, str})

    def test_drawn_floors_by_cells(self):
        for floor in drawn(43, 1):
            with self.subTest(size=floor.size, bars=floor.bars):
                tree = rooms(floor)
                self.assertEqual(tree, tree_by_cells(floor))
                self.assertIs(is_tree(tree), True)
                again = put_together(tree)
                self.assertEqual([again, again.size, again.bars], [floor, floor.size, floor.bars])
                self.assertTrue(all(is_bond(leaf) for leaf in leaves(tree)))
                self.assertIs(isinstance(tree, Floor), is_bond(floor))

    def test_all_floors_of_small_sizes(self):
        for size in ((4, 4, 2), (5, 4, 2), (6, 3, 2), (6, 4, 3), (5, 6, 3), (6, 5, 2)):
            trees = []
            for bars in every_floor(size):
                floor = Floor(size, *bars)
                trees.append(rooms(floor))
                self.assertEqual(put_together(trees[-1]), floor)
                self.assertEqual(trees[-1], tree_by_cells(floor))

    def test_wrong_floors(self):
        for value in NO_FLOORS:
            for call in (rooms, room_list):
                with self.subTest(value=value), self.assertRaises(InvalidFloor):
                    call(value)


class NoTrees(unittest.TestCase):
    def refused(self, value):
        with self.subTest(value=value):
            self.assertIs(is_tree(value), False)
            self.assertRaises(InvalidFloor, put_together, value)

    def test_other_values(self):
        for value in NO_FLOORS:
            if value != HALF_TREE:
                self.refused(value)
        for value in NO_FLOORS:
            self.refused(("beside", POST, value) if value != HALF_TREE else ("beside", POST, [POST]))
            self.refused(("beside", value, POST) if value != HALF_TREE else ("beside", [POST], POST))
            self.refused(("above", ("beside", POST, value), ("beside", POST, POST)))

    def test_words(self):
        for word in odd_values() + [0, 1, "Beside", "BESIDE", "besides", "beside ", "next", "across", "upright", b"beside",
                                    ("beside",), ["beside"], BAR]:
            self.refused((word, POST, POST))
        self.refused((POST, "beside", POST))
        self.refused((POST, POST, "beside"))
        self.refused((POST, POST))
        self.refused(["beside", POST, POST])
        self.refused(("beside", (POST, POST)))
        self.refused(("beside", [POST, POST]))
        self.refused({"beside": (POST, POST)})

    def test_no_part_and_one_part(self):
        for word in ("beside", "above"):
            self.refused((word,))
            for part in (POST, BAR, FIVE, ("above", BAR, BAR), ("beside", POST, POST)):
                self.refused((word, part))
        self.refused(("beside", ("above", BAR), ("above", BAR)))
        self.refused(("beside", POST, ("beside", POST)))

    def test_the_same_word_directly_within(self):
        self.refused(("beside", POST, ("beside", POST, POST)))
        self.refused(("beside", ("beside", POST, POST), POST))
        self.refused(("above", ("above", BAR, BAR), BAR))
        self.refused(("above", BAR, ("above", BAR, BAR)))
        self.refused(("beside", ("beside", FIVE, FIVE), ("beside", FIVE, FIVE)))

    def test_a_floor_with_seams_as_a_leaf(self):
        self.refused(TWO)
        self.refused(HALF.laid())
        self.refused(("beside", POST, TWO))
        self.refused(("above", HALF.laid(), HALF.laid()))
        self.refused(("beside", FIVE, beside(FIVE, FIVE)))

    def test_upright_seams_come_first(self):
        self.refused(("above", ("beside", BAR, BAR), ("beside", BAR, BAR)))
        self.refused(("above", ("beside", POST, POST), ("beside", POST, POST), BAR, ("beside", POST, POST))[:3])
        self.assertIs(is_tree(("above", ("beside", POST, POST), ("beside", POST, POST), BAR)), True)
        self.assertIs(is_tree(("beside", ("above", BAR, BAR), ("above", BAR, BAR))), True)
        self.refused(("above", ("beside", FIVE, FIVE), ("beside", FIVE, FIVE)))

    def test_parts_that_do_not_fit(self):
        self.refused(("beside", BAR, POST))
        self.refused(("above", BAR, POST))
        self.refused(("beside", POST, Floor.plain((1, 3, 3))))
        self.refused(("beside", ("above", BAR, BAR), BAR))
        self.refused(("beside", FIVE, FIVE.exchanged()))

    def test_just_400_cells_and_more(self):
        self.assertIs(is_tree(("beside",) + (BAR,) * 200), True)
        self.refused(("beside",) + (BAR,) * 201)
        self.assertIs(is_tree(("above",) + (POST,) * 200), True)
        self.refused(("above",) + (POST,) * 201)
        self.assertIs(is_tree(("beside",) + (FIVE,) * 13), True)
        self.refused(("beside",) + (FIVE,) * 14)

    def test_trees_that_are_changed(self):
        numbers = Numbers(44)
        for size in ((4, 4, 2), (6, 4, 2), (6, 6, 3), (8, 5, 2), (12, 6, 3)):
            for _ in range(4):
                floor = drawn_plan(numbers, size, 4).laid()
                tree = rooms(floor)
                for branch, put in branches(tree):
                    if not isinstance(branch, tuple):
                        self.refused(put((branch,)))
                        self.refused(put(("beside", branch)))
                        continue
                    other = {"beside": "above", "above": "beside"}[branch[0]]
                    for value in (branch[1:], list(branch), (branch,), (branch[0], branch), branch + (branch,), branch[:2]):
                        self.refused(put(value))
                    # What is changed may be the tree of another floor, but never that of this one.
                    for value in ((other,) + branch[1:], branch[:-1], branch + branch[-1:], branch[:1] + branch[:0:-1]):
                        changed = put(value)
                        self.assertIs(is_tree(changed), self.is_tree_by_cells(changed))

    def is_tree_by_cells(self, value):
        """Whether it can be put together, and is the tree of what comes."""
        try:
            return tree_by_cells(self.put_by_cells(value)) == value
        except (KeyError, InvalidFloor):
            return False

    def put_by_cells(self, value):
        if isinstance(value, Floor):
            return value
        parts = [self.put_by_cells(part) for part in value[1:]]
        bars, x, y = [], 0, 0
        for part in parts:
            bars += moved(part, x, y)
            x, y = (x + part.width, y) if value[0] == "beside" else (x, y + part.height)
        size = (x, parts[0].height) if value[0] == "beside" else (parts[0].width, y)
        return Floor(size + (parts[0].length,), *bars)

    def test_values_nested_twelve_deep(self):
        for leaf in (BAR, POST, FIVE, "beside", None, True, BIG, FORTY):
            for wrap in (lambda value: ("beside", value), lambda value: ("beside", value, value), lambda value: [value, value],
                         lambda value: ("above", ("beside", value, value), value), lambda value: {"above": value}):
                self.refused(nested(5, leaf, wrap))
        self.refused(nested(12, POST, lambda value: ("beside", value, value)))
        self.refused(nested(12, POST, lambda value: ("beside", value, value, value, value, value)))
        self.refused(nested(12, POST, lambda value: ("beside",) + (value,) * 50))

    def test_deeper_than_twelve(self):
        # Neither what stands beside nor what lies below has a seam where the one before it has.
        floor = above(beside(POST, POST), BAR)
        for many in range(1, 9):
            posts = beside(*[Floor.plain((1, floor.height - 1, 2))] * 2)
            wide = beside(floor, above(BAR, posts) if many == 1 else above(posts, BAR))
            floor = above(wide, beside(POST, Floor.plain((wide.width - 2, 2, 2)), POST))
            tree = rooms(floor)
            self.assertEqual(depth(tree), 2 + 2 * many)
            self.assertEqual([tree, put_together(tree)], [tree_by_cells(floor), floor])
            self.assertIs(is_tree(tree), True)
            self.assertIs(is_tree(("beside", tree)), False)


class Rooms(unittest.TestCase):
    def test_by_hand(self):
        self.assertEqual(room_list(HALF.laid()), ((0, 0, POST), (1, 0, POST), (2, 0, BAR), (2, 1, BAR)))
        self.assertEqual(room_list(Floor.plain((4, 2, 2))), ((0, 0, BAR), (0, 1, BAR), (2, 0, BAR), (2, 1, BAR)))
        # By places: a bond further left comes before one further up.
        self.assertEqual(room_list(above(TWO.exchanged(), BAR)), ((0, 0, POST), (0, 2, BAR), (1, 0, POST)))
        self.assertEqual(room_list(beside(FIVE, FIVE)), ((0, 0, FIVE), (6, 0, FIVE)))
        self.assertEqual(room_list(above(FIVE, FIVE)), ((0, 0, FIVE), (0, 5, FIVE)))

    def test_drawn_floors(self):
        for floor in drawn(45, 1):
            with self.subTest(size=floor.size, bars=floor.bars):
                found = room_list(floor)
                self.assertIsInstance(found, tuple)
                places = [(x, y) for x, y, _ in found]
                self.assertEqual(places, sorted(set(places)))
                self.assertTrue(all(is_bond(bond) and bond.length == floor.length for _, _, bond in found))
                covered = [(a, b) for x, y, bond in found for a in range(x, x + bond.width) for b in range(y, y + bond.height)]
                self.assertEqual(sorted(covered), [(a, b) for a in range(floor.width) for b in range(floor.height)])
                bars = [bar for x, y, bond in found for bar in moved(bond, x, y)]
                self.assertEqual(tuple(sorted(bars)), floor.bars)
                self.assertEqual(sorted(bond.bars for _, _, bond in found), sorted(leaf.bars for leaf in leaves(rooms(floor))))


class Both(unittest.TestCase):
    def test_defined_in_this_module(self):
        for name in ("beside", "above", "rooms", "is_tree", "put_together", "room_list"):
            self.assertEqual(getattr(module, name).__module__, "bondfloors.grow.rooms")

    def test_equal_calls_return_equal_results(self):
        floor = HALF.laid()
        for _ in range(2):
            self.assertEqual([rooms(floor), room_list(floor)[0]], [HALF_TREE, (0, 0, POST)])
            self.assertEqual(put_together(HALF_TREE), floor)
        self.assertEqual(HALF_TREE, ("beside", POST, POST, ("above", BAR, BAR)))

    def test_examples(self):
        self.assertEqual(
            [rooms(FIVE) == FIVE, rooms(Floor.plain((4, 2, 2))) == ("beside", ("above", BAR, BAR), ("above", BAR, BAR)),
             put_together(("above", BAR, BAR)) == Floor.plain((2, 2, 2))],
            [True, True, True],
        )
        self.assertEqual(
            [is_tree(("above", ("beside", BAR, BAR), ("beside", BAR, BAR))), is_tree(("above", ("beside", BAR, BAR), HALF.laid())),
             len(room_list(HALF.laid())), seams(beside(FIVE, FIVE))],
            [False, False, 4, (("upright", 6),)],
        )


if __name__ == "__main__":
    unittest.main()
