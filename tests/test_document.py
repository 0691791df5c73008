"""What the document promises over the whole program: its interface, its examples, [0.1] to [0.6], and what goes together."""

import doctest
import importlib
import inspect
import os
import unittest

from bondfloors import errors
from bondfloors.among.counts import Floors, many_floors, nth_floor, number_of
from bondfloors.among.parts import finished, is_part
from bondfloors.among.turns import is_turning_row, plain_row, turned, turned_along, turning_row, turnings
from bondfloors.base.floors import Floor
from bondfloors.base.words import is_name, is_size
from bondfloors.grow.rooms import is_tree, put_together, room_list, rooms
from bondfloors.grow.steps import heightened, least, narrowed, widened
from bondfloors.house.project import Project
from bondfloors.lines.crossings import crossings, is_bond, is_line, profile, seams
from bondfloors.live.floors import LiveFloor
from bondfloors.plans.bonds import bond_paper, bond_plan, is_bond_paper
from bondfloors.plans.fewest import fewest_floor, fewest_plan, fewest_seams, is_fewest
from bondfloors.sizes.verdicts import can_be_laid, has_bond, is_reason, reason, total_crossings, total_need
from bondfloors.text.shell import Shell
from bondfloors.text.texts import read_floor, read_plan, write_floor, write_plan
from tests.drawn import DRAWN_SIZES, Numbers, drawn_floor, drawn_plan, lines_of
from tests.helper import BIG, FORTY, five, nested, odd_values

FIVE = five()
EXAMPLES = os.path.join(os.path.dirname(os.path.abspath(__file__)), "document.txt")

# Each module with its functions, and with its classes and their methods, as the document writes them.
INTERFACE = {
    "bondfloors.base.words": {"is_name": "(value)", "is_size": "(value)"},
    "bondfloors.base.floors": {"Floor": {
        "__init__": "(self, size, *bars)", "of": "(size, bars)", "plain": "(size)", "size": None, "width": None, "height": None, "length": None,
        "bars": None, "bar_at": "(self, x, y)", "exchanged": "(self)", "mirrored": "(self)", "how_many": "(self, way)", "__len__": "(self)",
        "__contains__": "(self, value)", "__str__": "(self)"}},
    "bondfloors.lines.crossings": {
        "is_line": "(size, value)", "remainder": "(size, line)", "need": "(size, line)", "crossings": "(floor, line)", "seams": "(floor)",
        "is_bond": "(floor)", "strength": "(floor)", "profile": "(floor)"},
    "bondfloors.text.texts": {
        "write_floor": "(floor)", "read_floor": "(text)", "write_plan": "(plan)", "read_plan": "(text)"},
    "bondfloors.sizes.verdicts": {
        "can_be_laid": "(size)", "weight": "(size, number)", "has_bond": "(size)", "total_need": "(size)", "total_crossings": "(size)",
        "reason": "(size)", "is_reason": "(size, value)"},
    "bondfloors.plans.plans": {"Plan": {
        "__init__": "(self, size, *blocks)", "of": "(size, blocks)", "size": None, "blocks": None, "bars": None, "crossings": "(self, line)",
        "is_seam": "(self, line)", "many_seams": "(self)", "next_seam": "(self, way, first)", "exchanged": "(self)", "laid": "(self)",
        "__len__": "(self)", "__contains__": "(self, value)", "__str__": "(self)"}},
    "bondfloors.plans.bonds": {"bond_plan": "(size)", "bond_paper": "(size)", "is_bond_paper": "(size, value)"},
    "bondfloors.plans.fewest": {
        "fewest_seams": "(size)", "fewest_plan": "(size)", "is_fewest": "(size, value)", "fewest_floor": "(size)"},
    "bondfloors.grow.steps": {
        "widened": "(floor, *, times=1)", "heightened": "(floor, *, times=1)", "narrowed": "(floor)", "lowered": "(floor)", "is_least": "(floor)",
        "least": "(floor)"},
    "bondfloors.grow.rooms": {
        "beside": "(*floors)", "above": "(*floors)", "rooms": "(floor)", "is_tree": "(value)", "put_together": "(tree)", "room_list": "(floor)"},
    "bondfloors.among.counts": {
        "many_floors": "(size)", "many_bonds": "(size)", "nth_floor": "(size, number)", "number_of": "(floor)", "Floors": {
            "__init__": "(self, size)", "size": None, "total": None, "bonds": None, "nth": "(self, number)", "number": "(self, floor)",
            "walk": "(self)", "first_bond": "(self)", "__contains__": "(self, value)", "__str__": "(self)"}},
    "bondfloors.among.parts": {
        "is_part": "(size, value)", "many_finished": "(size, part)", "finished": "(size, part)", "sure_bars": "(size, part)",
        "free_cells": "(size, part)"},
    "bondfloors.among.turns": {
        "turnings": "(floor)", "turned": "(floor, x, y)", "turned_along": "(floor, row)", "plain_row": "(floor)", "turning_row": "(one, other)",
        "is_turning_row": "(one, other, value)"},
    "bondfloors.live.floors": {"LiveFloor": {
        "__init__": "(self, floor)", "floor": None, "seams": None, "deeds": None, "turn": "(self, x, y)", "widen": "(self)",
        "heighten": "(self)", "exchange": "(self)", "undo": "(self, *, many=1)", "redo": "(self, *, many=1)", "won": "(self)", "lost": "(self)",
        "trial": "(self)", "during": "(self, call)", "twin": "(self)", "__len__": "(self)", "__str__": "(self)"}},
    "bondfloors.house.project": {"Project": {
        "__init__": "(self, size)", "size": None, "promises": None, "deeds": None, "__getitem__": "(self, name)",
        "promise": "(self, name, *terms)", "forget": "(self, name)", "resize": "(self, size)", "widen": "(self, times)",
        "heighten": "(self, times)", "undo": "(self, *, many=1)", "redo": "(self, *, many=1)", "trial": "(self)", "during": "(self, call)",
        "twin": "(self)", "__contains__": "(self, value)", "__len__": "(self)", "__str__": "(self)"}},
    "bondfloors.text.shell": {"Shell": {
        "__init__": "(self)", "run": "(self, command)", "__call__": "(self, command)", "names": None, "floors": None, "script": None,
        "replayed": "(script)", "__contains__": "(self, value)", "__len__": "(self)", "__str__": "(self)"}},
}
CONSTANTS = (
    ("bondfloors.base.floors", "MAX_CELLS", 400), ("bondfloors.plans.plans", "MAX_BLOCKS", 64), ("bondfloors.among.counts", "MAX_COUNTED", 64),
    ("bondfloors.among.turns", "MAX_TURNINGS", 5000), ("bondfloors.text.shell", "MAX_FLOORS", 8),
)


def objects():
    """One object of each class that the document lists, each made anew."""
    shell = Shell()
    shell("new a\n" + write_floor(FIVE))
    project = Project((6, 5, 2))
    project.promise("a", "bond")
    live = LiveFloor(FIVE)
    live.widen()
    return [five(), bond_plan((6, 5, 2)), Floors((4, 2, 2)), live, project, shell]


class Interface(unittest.TestCase):
    def test_names_and_parameters(self):
        for path, listed in INTERFACE.items():
            module = importlib.import_module(path)
            for name, told in listed.items():
                with self.subTest(module=path, name=name):
                    found = vars(module)[name]
                    self.assertEqual(found.__module__, path)
                    if isinstance(told, str):
                        self.assertTrue(inspect.isfunction(found))
                        self.assertEqual(str(inspect.signature(found)), told)
                    else:
                        self.methods(found, told)

    def methods(self, kind, listed):
        self.assertTrue(inspect.isclass(kind))
        self.assertIn("__eq__", vars(kind))
        for name, told in listed.items():
            with self.subTest(kind=kind.__name__, name=name):
                found = vars(kind)[name]
                if told is None:
                    self.assertIsInstance(found, property)
                else:
                    self.assertEqual(str(inspect.signature(getattr(kind, name))), told)

    def test_constants(self):
        for path, name, worth in CONSTANTS:
            self.assertEqual(vars(importlib.import_module(path))[name], worth)


class Examples(unittest.TestCase):
    def test_they_give_what_stands_there(self):
        with open(EXAMPLES, encoding="utf-8") as file:
            text = file.read()
        names = {}
        for path, listed in INTERFACE.items():
            names.update({name: vars(importlib.import_module(path))[name] for name in listed})
        examples = doctest.DocTestParser().get_doctest(text, names, "document.txt", EXAMPLES, 0)
        result = doctest.DocTestRunner().run(examples)
        self.assertEqual([result.failed, result.attempted], [0, 35])


class Conventions(unittest.TestCase):
    def test_objects_cannot_be_iterated_over(self):
        for made in objects():
            for call in (iter, list, tuple, sorted, dict, lambda made: [value for value in made], lambda made: (*made,)):
                with self.subTest(made=str(made)), self.assertRaises(TypeError):
                    call(made)

    def test_equal_with_every_value(self):
        here, there = objects(), objects()
        for at, made in enumerate(here):
            for other_at, other in enumerate(there):
                self.assertIs(made == other, at == other_at)
                self.assertIs(made != other, at != other_at)
            for value in odd_values() + [0, 1, BIG, FORTY, str(made), (made,), [made], {"a": made}]:
                equal = isinstance(value, Floor) and at == 0
                self.assertIs(made == value, equal)
                self.assertIs(made != value, not equal)
                self.assertIs(value == made, equal)
                self.assertIs(value != made, not equal)

    def test_in_with_every_value(self):
        for made in objects():
            if isinstance(made, LiveFloor):
                continue
            for value in odd_values() + objects() + [0, 1, BIG, FORTY, str(made), (made,), [made], {"a": made}]:
                self.assertIn(value in made, (True, False))
                self.assertIs(value not in made, not value in made)

    def test_functions_whose_name_begins_with_is(self):
        size = (6, 5, 2)
        calls = (is_name, is_size, is_tree, lambda value: is_line(size, value), lambda value: is_reason(size, value),
                 lambda value: is_reason((6, 6, 2), value), lambda value: is_bond_paper(size, value), lambda value: is_bond_paper((6, 6, 2), value),
                 lambda value: is_fewest(size, value), lambda value: is_part(size, value), lambda value: is_turning_row(FIVE, FIVE, value))
        leaves = odd_values() + objects() + [0, 1, BIG, FORTY, -FORTY, "beside", "plan", "reason", "weights", "upright", "~\n", FIVE.bars]
        values = leaves + [(value,) for value in leaves] + [(value, value) for value in leaves] + [[value] for value in leaves]
        values += [(word, value) for word in ("beside", "plan", "reason", "weights", "upright", "level", 0) for value in leaves]
        values += [(word, value, value) for word in ("beside", "above", "weights", 0) for value in leaves]
        values += [nested(12, leaf, wrap) for leaf in (1, "a", None, FIVE) for wrap in (
            lambda value: (value,), lambda value: [value], lambda value: {"a": value}, lambda value: ("beside", value), lambda value: (0, value))]
        for call in calls:
            for value in values:
                self.assertIn(call(value), (True, False))
                self.assertIsInstance(call(value), bool)

    def test_errors_keep_what_they_take(self):
        value = [1, [2]]
        for kind, name in ((errors.UnknownName, "name"), (errors.InvalidNumber, "value"), (errors.NothingToUndo, "many"), (errors.Refused, "name")):
            self.assertEqual(getattr(kind(value), name), value)

    def test_methods_without_results(self):
        project = Project((6, 5, 2))
        self.assertEqual([project.promise("a", "laid"), project.widen(1), project.heighten(1), project.resize((4, 4, 2)), project.forget("a")], [None] * 5)


class Together(unittest.TestCase):
    def test_floors_changed_in_three_ways(self):
        numbers = Numbers(111)
        for size in ((6, 5, 2), (4, 4, 2), (2, 1, 2), (6, 6, 3), (9, 7, 3), (8, 5, 4), (1, 5, 5), (10, 10, 2), (3, 2, 3)):
            floor = drawn_floor(numbers, size)
            live, shell = LiveFloor(floor), Shell()
            shell("new a\n" + write_floor(floor))
            for _ in range(25):
                kind = numbers.below(5)
                places = turnings(floor)
                if kind < 3 and places:
                    x, y = places[numbers.below(len(places))]
                    floor = turned(floor, x, y)
                    results = [live.turn(x, y), shell(f"turn a {x} {y}")]
                elif kind == 3 and (floor.width + floor.length) * floor.height <= 400:
                    floor = widened(floor)
                    results = [live.widen(), shell("widen a 1")]
                elif kind == 4 and (floor.height + floor.length) * floor.width <= 400:
                    floor = heightened(floor)
                    results = [live.heighten(), shell("heighten a 1")]
                else:
                    continue
                many = len(seams(floor))
                self.assertEqual(results, [many, many])
                self.assertEqual([live.floor, shell.floors["a"], read_floor(shell("text a"))], [floor, floor, floor])
                self.assertEqual([live.seams, shell("seams a")], [seams(floor), seams(floor)])
            again = LiveFloor(live.during(lambda same: same.undo(many=len(same)) or same.floor))
            for deed in live.deeds:
                getattr(again, deed[0])(*deed[1:])
            self.assertEqual([again.floor, Shell.replayed(shell.script).floors["a"]], [floor, floor])

    def test_floors_in_all_their_forms(self):
        numbers = Numbers(112)
        for size in DRAWN_SIZES:
            plan = drawn_plan(numbers, size)
            floor = plan.laid()
            with self.subTest(plan=write_plan(plan)):
                self.assertEqual([read_plan(write_plan(plan)), read_floor(write_floor(floor))], [plan, floor])
                self.assertEqual([plan.many_seams(), plan.bars], [len(seams(floor)), len(floor)])
                for line in lines_of(size):
                    self.assertEqual([plan.crossings(line), plan.is_seam(line)], [crossings(floor, line), line in seams(floor)])
                self.assertEqual(sum(map(sum, profile(floor))), total_crossings(size))
                self.assertEqual(put_together(rooms(floor)), floor)
                self.assertIs(is_bond(floor), len(room_list(floor)) == 1)
                self.assertEqual(turned_along(floor, plain_row(floor)), Floor.plain(size))
                self.assertGreaterEqual(len(seams(floor)), fewest_seams(size))
                if size[0] * size[1] <= 64:
                    self.assertEqual(nth_floor(size, number_of(floor)), floor)
                    self.assertIn(floor, Floors(size))
                    self.assertEqual(finished(size, floor.bars), floor)

    def test_floors_with_the_fewest_seams(self):
        for width in range(1, 15):
            for height in range(1, 15):
                for length in range(2, 6):
                    size = (width, height, length)
                    if not can_be_laid(size):
                        self.assertEqual([has_bond(size), reason(size)[0] in ("weights", "narrow")], [False, True])
                        continue
                    floor, plan = fewest_floor(size), fewest_plan(size)
                    with self.subTest(size=size):
                        self.assertEqual(len(seams(floor)), fewest_seams(size))
                        self.assertEqual([plan.many_seams(), is_fewest(size, plan)], [fewest_seams(size), True])
                        self.assertEqual([fewest_seams(size) == 0, is_bond(floor), reason(size) is None], [has_bond(size)] * 3)
                        self.assertIs(is_bond_paper(size, bond_paper(size)), True)
                        self.assertEqual(turned_along(Floor.plain(size), turning_row(Floor.plain(size), floor)), floor)
                        self.assertEqual(put_together(rooms(floor)), floor)
                        if has_bond(size):
                            self.assertLessEqual(total_need(size), total_crossings(size))

    def test_no_floor_has_fewer_seams(self):
        for size in ((4, 4, 2), (5, 4, 2), (6, 3, 2), (6, 2, 2), (6, 6, 3), (7, 6, 3), (9, 4, 3), (8, 5, 4), (6, 3, 3), (7, 3, 3), (3, 2, 3), (6, 6, 2)):
            floors = Floors(size)
            self.assertEqual(min(len(seams(floor)) for floor in floors.walk()), fewest_seams(size))
            self.assertIs(floors.bonds > 0, has_bond(size))

    def test_least_floors_and_bonds_of_a_size(self):
        floors = Floors((8, 5, 2))
        bonds = [floor for floor in floors.walk() if is_bond(floor)]
        self.assertEqual([len(bonds), bonds[0]], [floors.bonds, floors.first_bond()])
        self.assertTrue(all(is_bond(least(floor)[0]) for floor in bonds))
        self.assertEqual(sum(narrowed(floor) is not None for floor in bonds), Floors((6, 5, 2)).bonds)
        self.assertEqual(sum(narrowed(floor) is not None for floor in floors.walk()), many_floors((6, 5, 2)))

    def test_a_project_that_promises_a_bond(self):
        project = Project((6, 5, 2))
        project.promise("tight", "bond")
        floor = bond_plan((6, 5, 2)).laid()
        for _ in range(5):
            project.widen(1)
            project.heighten(1)
            floor = heightened(widened(floor))
            self.assertEqual([project.size, is_bond(floor)], [floor.size, True])
        self.assertEqual(bond_plan(project.size).many_seams(), 0)


if __name__ == "__main__":
    unittest.main()
