"""Stage 14: a live floor, with [0.2] and [0.15]."""

import unittest

from bondfloors.among.turns import turned, turnings
from bondfloors.base.floors import Floor
from bondfloors.errors import InvalidFloor, InvalidNumber, InvalidOperation, NothingToUndo, TooMany
from bondfloors.grow.steps import heightened, widened
from bondfloors.lines.crossings import seams
from bondfloors.live import floors as module
from bondfloors.live.floors import LiveFloor
from bondfloors.plans.plans import Plan
from tests.drawn import Numbers, drawn_floor
from tests.helper import BIG, FORTY, five, floor_of, odd_values

FIVE = five()
HALF = Plan((4, 2, 2), (2, 0, 2, 2, "across"), (0, 0, 2, 2, "down"))
NO_FLOORS = [value for value in odd_values() if not isinstance(value, Floor)] + [
    0, 1, FIVE.size, FIVE.bars, str(FIVE), HALF, [FIVE], (FIVE,), {"floor": FIVE}, LiveFloor(FIVE), LiveFloor,
]
NO_NUMBERS = odd_values() + [-1, -2, -FORTY, "0", "1", (1,), [1], {1: 1}, FIVE, LiveFloor(FIVE)]


class Model:
    """What the test keeps of a live floor: all floors so far, with the deeds between them, and how many are past."""

    def __init__(self, floor):
        self.floors, self.told, self.past = [floor], [], 0

    def now(self):
        return self.floors[self.past]

    def add(self, deed, floor):
        del self.floors[self.past + 1:], self.told[self.past:]
        self.floors.append(floor)
        self.told.append(deed)
        self.past += 1

    def copy(self):
        other = Model(None)
        other.floors, other.told, other.past = list(self.floors), list(self.told), self.past
        return other


def agree(test, live, model):
    """Compares all that a live floor tells with the model."""
    floor = model.now()
    found = seams(floor)
    before = seams(model.floors[model.past - 1]) if model.past else found
    deeds = tuple(model.told[:model.past])
    test.assertEqual([live.floor, live.floor.bars, live.seams, live.deeds, len(live)], [floor, floor.bars, found, deeds, len(deeds)])
    test.assertEqual(live.won(), tuple(sorted(set(found) - set(before))))
    test.assertEqual(live.lost(), tuple(sorted(set(before) - set(found))))
    test.assertEqual(str(live), "live floor of %d by %d cells, %d seams" % (floor.width, floor.height, len(found)))
    test.assertIs(live == LiveFloor(floor), True)


def expected(model, deed):
    """The floor behind a deed, or the error that has to come."""
    floor = model.now()
    if deed[0] == "turn":
        x, y = deed[1:]
        for value, side in ((x, floor.width), (y, floor.height)):
            if isinstance(value, bool) or not isinstance(value, int) or not 0 <= value < side:
                return InvalidNumber
        return turned(floor, x, y) if (x, y) in turnings(floor) else InvalidOperation
    if deed == ("exchange",):
        return floor.exchanged()
    along, beside = (floor.width, floor.height) if deed == ("widen",) else (floor.height, floor.width)
    if (along + floor.length) * beside > 400:
        return TooMany
    return widened(floor) if deed == ("widen",) else heightened(floor)


def drawn_deed(numbers, floor):
    kind = numbers.below(10)
    if kind < 5:
        places = turnings(floor)
        if places and kind < 4:
            return ("turn",) + places[numbers.below(len(places))]
        return ("turn", numbers.below(floor.width + 2) - 1, (None, True, numbers.below(floor.height + 1))[numbers.below(3)])
    return (("widen",), ("heighten",), ("exchange",), ("exchange",), ("widen",))[kind - 5]


def step(test, numbers, live, model):
    """One drawn call of the live floor, and the same at the model."""
    kind = numbers.below(12)
    if kind < 2:
        undone(test, live, model, numbers.below(4))
    elif kind < 4:
        redone(test, live, model, numbers.below(3))
    else:
        deed = drawn_deed(numbers, model.now())
        done(test, live, model, deed)
    agree(test, live, model)


def done(test, live, model, deed):
    result = expected(model, deed)
    call = getattr(live, deed[0])
    if isinstance(result, Floor):
        model.add(deed, result)
        test.assertEqual(call(*deed[1:]), len(seams(result)))
    else:
        test.assertRaises(result, call, *deed[1:])


def undone(test, live, model, many):
    if many > model.past:
        test.assertRaises(NothingToUndo, live.undo, many=many)
    else:
        model.past -= many
        test.assertEqual(live.undo(many=many), model.past)


def redone(test, live, model, many):
    if many > len(model.told) - model.past:
        test.assertRaises(NothingToUndo, live.redo, many=many)
    else:
        model.past += many
        test.assertEqual(live.redo(many=many), model.past)


def drawn(numbers):
    """Live floors with their models."""
    for size in ((6, 5, 2), (4, 2, 2), (2, 1, 2), (6, 6, 3), (9, 7, 3), (16, 12, 4), (1, 5, 5), (18, 20, 2), (20, 20, 5), (2, 3, 3)):
        floor = drawn_floor(numbers, size)
        yield LiveFloor(floor), Model(floor)


class Deeds(unittest.TestCase):
    def test_at_first(self):
        for floor in (FIVE, Floor.plain((2, 1, 2)), HALF.laid(), Floor.plain((20, 20, 2))):
            agree(self, LiveFloor(floor), Model(floor))
        live = LiveFloor(FIVE)
        self.assertEqual([live.floor, live.seams, live.deeds, live.won(), live.lost(), len(live)], [FIVE, (), (), (), (), 0])
        self.assertEqual(str(live), "live floor of 6 by 5 cells, 0 seams")
        self.assertEqual(str(LiveFloor(Floor.plain((1, 4, 2)))), "live floor of 1 by 4 cells, 1 seams")

    def test_by_hand(self):
        live = LiveFloor(FIVE)
        self.assertEqual([live.turn(1, 0), live.won(), live.lost()], [1, (("upright", 2),), ()])
        self.assertEqual([live.turn(x=1, y=0), live.won(), live.lost()], [0, (), (("upright", 2),)])
        self.assertEqual([live.widen(), live.won(), live.lost(), live.floor.size], [0, (), (), (8, 5, 2)])
        self.assertEqual([live.heighten(), live.exchange(), live.floor], [0, 0, heightened(widened(FIVE)).exchanged()])
        self.assertEqual(live.deeds, (("turn", 1, 0), ("turn", 1, 0), ("widen",), ("heighten",), ("exchange",)))
        self.assertEqual(str(live), "live floor of 7 by 8 cells, 0 seams")

    def test_won_and_lost_compare_lines_as_they_are_told(self):
        live = LiveFloor(Floor.plain((4, 2, 2)))
        self.assertEqual([live.seams, live.exchange()], [(("level", 1), ("upright", 2)), 2])
        self.assertEqual([live.won(), live.lost()], [(("level", 2), ("upright", 1)), (("level", 1), ("upright", 2))])
        live = LiveFloor(Floor.plain((2, 2, 2)))
        self.assertEqual([live.turn(0, 0), live.won(), live.lost()], [1, (("upright", 1),), (("level", 1),)])
        # What stays a seam is neither won nor lost.
        live = LiveFloor(Floor.plain((2, 1, 2)))
        self.assertEqual([live.widen(), live.won(), live.lost()], [1, (("upright", 2),), ()])
        self.assertEqual([live.widen(), live.won(), live.lost()], [2, (("upright", 4),), ()])
        self.assertEqual([live.undo(), live.won(), live.lost()], [1, (("upright", 2),), ()])
        self.assertEqual([live.undo(), live.won(), live.lost()], [0, (), ()])
        live = LiveFloor(Floor.plain((5, 5, 5)))
        self.assertEqual([live.turn(0, 0), live.won(), live.lost()],
                         [4, tuple(("upright", c) for c in range(1, 5)), tuple(("level", c) for c in range(1, 5))])

    def test_drawn_calls(self):
        numbers = Numbers(81)
        for live, model in drawn(numbers):
            for _ in range(60):
                step(self, numbers, live, model)
            # All undone, all done again, and all deeds done anew.
            last = model.copy()
            undone(self, live, model, model.past)
            agree(self, live, model)
            self.assertEqual(live.floor, model.floors[0])
            redone(self, live, model, len(model.told))
            agree(self, live, model)
            again = LiveFloor(model.floors[0])
            for deed in live.deeds:
                getattr(again, deed[0])(*deed[1:])
            agree(self, again, model)
            undone(self, live, model, len(model.told) - last.past)
            agree(self, live, last)

    def test_one_by_one(self):
        live, model = LiveFloor(FIVE), Model(FIVE)
        for deed in (("turn", 1, 0), ("widen",), ("exchange",), ("heighten",)):
            done(self, live, model, deed)
        for call in (undone, undone, redone, undone, undone, undone, undone, redone, redone, redone, redone, redone):
            call(self, live, model, 1)
            agree(self, live, model)
        self.assertEqual([live.undo(), live.undo(many=2), live.redo(), live.undo(many=0), live.redo(many=0), live.redo(many=2)], [3, 1, 2, 2, 2, 4])

    def test_a_new_call_ends_redoing(self):
        live = LiveFloor(FIVE)
        live.widen()
        live.turn(1, 0)
        live.undo()
        live.exchange()
        self.assertRaises(NothingToUndo, live.redo)
        self.assertEqual([live.deeds, live.floor], [(("widen",), ("exchange",)), widened(FIVE).exchanged()])
        live.undo(many=2)
        self.assertEqual([live.redo(many=2), live.floor], [2, widened(FIVE).exchanged()])

    def test_a_refused_call_changes_nothing(self):
        live = LiveFloor(Floor.plain((20, 20, 2)))
        live.turn(0, 0)
        live.turn(2, 0)
        live.undo()
        before = (live.floor, live.seams, live.deeds, live.won(), live.lost())
        for call in (live.widen, live.heighten):
            with self.assertRaises(TooMany) as raised:
                call()
            self.assertEqual(raised.exception.limit, 400)
        for x, y in ((20, 0), (0, 20), (-1, 0), (None, 0), (0, True), (1, 0), (0, 1), (19, 19)):
            self.assertRaises((InvalidNumber, InvalidOperation), live.turn, x, y)
        for many in (-1, None, True, 2, FORTY):
            self.assertRaises((InvalidNumber, NothingToUndo), live.undo, many=many)
            self.assertRaises((InvalidNumber, NothingToUndo), live.redo, many=many)
        self.assertEqual((live.floor, live.seams, live.deeds, live.won(), live.lost()), before)
        # What was refused cannot be taken back, and redoing goes on.
        self.assertEqual([live.redo(), live.deeds], [2, (("turn", 0, 0), ("turn", 2, 0))])
        self.assertEqual(live.undo(many=2), 0)

    def test_errors_of_turn(self):
        live = LiveFloor(FIVE)
        for x in odd_values() + [6, FORTY, "0"]:
            for y in (0, 5, None):
                with self.subTest(x=x, y=y), self.assertRaises(InvalidNumber) as raised:
                    live.turn(x, y)
                self.assertEqual(raised.exception.value, x)
        for y in odd_values() + [5, FORTY, "0"]:
            with self.subTest(y=y), self.assertRaises(InvalidNumber) as raised:
                live.turn(5, y)
            self.assertEqual(raised.exception.value, y)
        self.assertRaises(InvalidOperation, live.turn, 5, 4)
        self.assertEqual([live.floor, live.deeds], [FIVE, ()])

    def test_up_to_400_cells(self):
        live = LiveFloor(Floor.plain((2, 10, 2)))
        for _ in range(19):
            live.widen()
        self.assertEqual([live.floor, len(live)], [Floor.plain((40, 10, 2)), 19])
        self.assertRaises(TooMany, live.widen)
        self.assertRaises(TooMany, live.heighten)
        self.assertEqual([live.undo(), live.widen(), len(live), len(live.seams)], [18, 28, 19, 28])

    def test_wrong_numbers(self):
        live = LiveFloor(FIVE)
        live.widen()
        live.widen()
        live.undo()
        for many in NO_NUMBERS:
            for call in (live.undo, live.redo):
                with self.subTest(many=many), self.assertRaises(InvalidNumber) as raised:
                    call(many=many)
                self.assertEqual(raised.exception.value, many)
                self.assertIs(type(raised.exception.value), type(many))
        for many in (2, 3, BIG, FORTY):
            for call in (live.undo, live.redo):
                with self.subTest(many=many), self.assertRaises(NothingToUndo) as raised:
                    call(many=many)
                self.assertEqual(raised.exception.many, many)
        self.assertEqual([len(live), live.redo(), live.undo(many=2)], [1, 2, 0])
        with self.assertRaises(NothingToUndo) as raised:
            live.undo()
        self.assertEqual(raised.exception.many, 1)
        self.assertRaises(TypeError, live.undo, 1)
        self.assertRaises(TypeError, live.redo, 1)

    def test_wrong_floors(self):
        for value in NO_FLOORS:
            with self.subTest(value=value), self.assertRaises(InvalidFloor):
                LiveFloor(value)


class Halt(Exception):
    """What a block of a test ends by."""


class Trials(unittest.TestCase):
    def test_drawn_blocks(self):
        numbers = Numbers(82)
        for live, model in drawn(numbers):
            for _ in range(12):
                step(self, numbers, live, model)
            kept = model.copy()
            with live.trial() as same:
                self.assertIs(same, live)
                agree(self, live, model)
                for _ in range(8):
                    step(self, numbers, live, model)
                inner = model.copy()
                with live.trial() as again:
                    self.assertIs(again, live)
                    for _ in range(8):
                        step(self, numbers, live, model)
                model = inner
                agree(self, live, model)
                step(self, numbers, live, model)
            agree(self, live, kept)
            model = kept
            for _ in range(8):
                step(self, numbers, live, model)

    def test_what_can_be_taken_back_and_done_again(self):
        live, model = LiveFloor(FIVE), Model(FIVE)
        for deed in (("widen",), ("exchange",), ("heighten",)):
            done(self, live, model, deed)
        undone(self, live, model, 1)
        for change in (lambda: live.undo(many=2), live.redo, live.widen, lambda: live.undo(many=2) and live.redo(), lambda: None):
            with live.trial():
                change()
            agree(self, live, model)
        self.assertEqual([live.redo(), live.deeds[-1]], [3, ("heighten",)])
        self.assertEqual(live.undo(many=3), 0)

    def test_a_block_that_ends_by_an_error(self):
        live = LiveFloor(FIVE)
        live.turn(1, 0)
        for error in (Halt, ValueError, KeyboardInterrupt):
            with self.assertRaises(error):
                with live.trial() as same:
                    same.undo()
                    same.widen()
                    raise error()
            self.assertEqual([live.floor, live.deeds], [turned(FIVE, 1, 0), (("turn", 1, 0),)])
        # Also by an error of the live floor itself, in a block within a block.
        with self.assertRaises(NothingToUndo):
            with live.trial():
                live.exchange()
                with live.trial():
                    live.undo(many=3)
        self.assertEqual([live.floor, live.deeds, live.undo()], [turned(FIVE, 1, 0), (("turn", 1, 0),), 0])

    def test_it_is_as_when_the_block_began(self):
        live = LiveFloor(FIVE)
        trial = live.trial()
        live.widen()
        with trial:
            live.widen()
        self.assertEqual(live.deeds, (("widen",),))
        live.exchange()
        with trial as same:
            self.assertIs(same, live)
            live.undo()
            # The same trial once more, within itself.
            with trial:
                live.undo()
                self.assertEqual(live.deeds, ())
            self.assertEqual(live.deeds, (("widen",),))
        self.assertEqual(live.deeds, (("widen",), ("exchange",)))

    def test_leaving_a_block_by_return_and_break(self):
        live = LiveFloor(FIVE)

        def left():
            with live.trial() as same:
                same.widen()
                return len(same)

        self.assertEqual([left(), len(live)], [1, 0])
        for _ in range(2):
            with live.trial():
                live.widen()
                break
        self.assertEqual([live.floor, live.deeds], [FIVE, ()])

    def test_during(self):
        live = LiveFloor(FIVE)
        live.turn(1, 0)
        self.assertEqual(live.during(lambda same: (same is live, same.widen(), same.exchange(), len(same), same.floor)),
                         (True, 1, 1, 3, widened(turned(FIVE, 1, 0)).exchanged()))
        self.assertEqual([live.floor, live.deeds], [turned(FIVE, 1, 0), (("turn", 1, 0),)])
        self.assertIsNone(live.during(lambda same: None))
        self.assertEqual(live.during(lambda same: same.undo()), 0)
        self.assertEqual(live.during(len), 1)
        self.assertEqual(live.during(call=str), "live floor of 6 by 5 cells, 1 seams")
        self.assertEqual(live.during(lambda same: same.during(lambda inner: inner.widen() and len(inner)) + len(same)), 3)

        def halt(same):
            same.undo()
            raise Halt("halt")

        self.assertRaises(Halt, live.during, halt)
        self.assertRaises(NothingToUndo, live.during, lambda same: same.undo(many=2))
        self.assertEqual([live.floor, live.deeds, live.won()], [turned(FIVE, 1, 0), (("turn", 1, 0),), (("upright", 2),)])

    def test_twins_go_their_own_way(self):
        numbers = Numbers(83)
        for live, model in drawn(numbers):
            for _ in range(10):
                step(self, numbers, live, model)
            twin, other = live.twin(), model.copy()
            self.assertIsInstance(twin, LiveFloor)
            self.assertIsNot(twin, live)
            self.assertIs(twin == live, True)
            agree(self, twin, other)
            for _ in range(10):
                step(self, numbers, live, model)
                agree(self, twin, other)
            for _ in range(10):
                step(self, numbers, twin, other)
                agree(self, live, model)

    def test_twins_within_a_block(self):
        live = LiveFloor(FIVE)
        with live.trial():
            live.widen()
            twin = live.twin()
        self.assertEqual([len(live), len(twin), twin.floor], [0, 1, widened(FIVE)])
        with twin.trial():
            live.exchange()
            twin.undo()
        self.assertEqual([live.floor, twin.floor, twin.undo()], [FIVE.exchanged(), widened(FIVE), 0])


class Held(unittest.TestCase):
    def test_equal(self):
        live, other = LiveFloor(FIVE), LiveFloor(floor_of(2, ("v>-v>-", "|>-|vv", "vv>-||", "||v>-v", ">-|>-|")))
        self.assertIs(live == other, True)
        self.assertIs(live != other, False)
        other.turn(1, 0)
        self.assertIs(live == other, False)
        self.assertIs(live != other, True)
        # Deeds do not count.
        other.turn(1, 0)
        self.assertIs(live == other, True)
        self.assertIs(LiveFloor(Floor.plain((4, 4, 2))) == LiveFloor(Floor.plain((4, 4, 4))), False)

    def test_other_values(self):
        live = LiveFloor(FIVE)
        for value in odd_values() + [0, FIVE, str(live), (), FIVE.bars, HALF]:
            with self.subTest(value=value):
                self.assertIs(live == value, False)
                self.assertIs(value == live, False)
                self.assertIs(live != value, True)
                self.assertIs(value != live, True)
        self.assertIs(live in (None, FIVE, LiveFloor(five())), True)

    def test_cannot_be_iterated_over(self):
        for call in (iter, list, tuple, sorted, lambda live: (*live,)):
            self.assertRaises(TypeError, call, LiveFloor(FIVE))

    def test_properties_are_only_read(self):
        live = LiveFloor(FIVE)
        for name in ("floor", "seams", "deeds"):
            with self.assertRaises(AttributeError):
                setattr(live, name, ())
        self.assertEqual([live.floor, live.seams, live.deeds], [FIVE, (), ()])

    def test_what_was_returned_stays(self):
        live = LiveFloor(FIVE)
        live.turn(1, 0)
        floor, found, deeds, won = live.floor, live.seams, live.deeds, live.won()
        live.widen()
        live.undo(many=2)
        self.assertEqual([floor, found, deeds, won], [turned(FIVE, 1, 0), (("upright", 2),), (("turn", 1, 0),), (("upright", 2),)])

    def test_defined_in_this_module(self):
        self.assertEqual(LiveFloor.__module__, "bondfloors.live.floors")
        self.assertIs(module.LiveFloor, LiveFloor)
        for name in ("floor", "seams", "deeds", "turn", "widen", "heighten", "exchange", "undo", "redo", "won", "lost", "trial", "during",
                     "twin", "__len__", "__eq__", "__str__", "__init__"):
            self.assertIn(name, vars(LiveFloor))


if __name__ == "__main__":
    unittest.main()
