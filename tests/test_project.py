"""Stage 15: a project, with [0.2], [0.11], [0.12], [0.13] and [15.1]."""

import unittest

from bondfloors.base.floors import Floor
from bondfloors.errors import InvalidNumber, InvalidOperation, InvalidSize, NothingToUndo, Refused, UnknownName
from bondfloors.house import project as module
from bondfloors.house.project import Project
from bondfloors.plans.fewest import fewest_seams
from bondfloors.plans.plans import Plan
from bondfloors.sizes.verdicts import can_be_laid, has_bond
from tests.drawn import Numbers, every_floor, seams_counted
from tests.helper import BIG, FORTY, five, odd_values

FIVE = five()
SIZE = (6, 5, 2)
NO_SIZES = [value for value in odd_values() if value != SIZE] + [
    0, 6, (6, 5, 1), (0, 5, 2), (6, 0, 2), [6, 5, 2], (BIG + 1, 5, 2), (6, BIG + 1, 2), (6, 5, BIG + 1), FIVE, "6 5 2", Project(SIZE), FORTY,
]
NO_NUMBERS = odd_values() + [-1, -2, -FORTY, "0", "1", (1,), [1], {1: 1}, FIVE, Project(SIZE)]
NO_NAMES = odd_values() + [0, 1, "Abc", "abcdefghi", "a b", "a1", "a_b", " a", "a\n", ("a",), ["a"], {"a": 1}, FIVE, Project(SIZE)]
# Terms that are nearly promises.
NO_PROMISES = [
    (), ("laid", 0), ("laid", None), ("laid", "laid"), ("bond", 1), ("bond", "bond"), ("laid", "bond"), ("Laid",), ("laids",), ("lai",), ("",),
    ("bond ",), ("bonds",), ("within",), ("seams",), ("bars",), ("seams", 1, 1), ("bars", 3, 3), ("seams", -1), ("bars", -1), ("bars", -FORTY),
    ("seams", True), ("seams", False), ("bars", True), ("bars", False), ("seams", None), ("seams", "1"), ("bars", "1"), ("seams", (1,)),
    ("seams", [1]), ("bars", {}), ("bars", FIVE), ("seam", 1), ("Bars", 20), (1, "seams"), (20, "bars"), ("within", 6, 5, 2), ("within", 6),
    ("within", (6, 5)), ("within", (6, 5, 1)), ("within", [6, 5, 2]), ("within", (6, 5, 2), 1), ("within", (0, 5, 2)), ("within", (BIG + 1, 5, 2)),
    ("within", (True, 5, 2)), ("within", None), ("within", "6 5 2"), ("within", FIVE), ("within", ((6, 5, 2),)), (SIZE, "within"), (("laid",),),
    (["laid"],), ({"laid": 1},), (("bond",),), (("seams", 1),), (None,), (True,), (0,), (1,), (FIVE,), (b"laid",), ("laid\n",), ("weights", 1),
] + [(value,) for value in odd_values()] + [(value, 1) for value in odd_values()] + [("seams", value) for value in odd_values()] + [
    ("bars", value) for value in odd_values()] + [("within", value) for value in odd_values() if value != SIZE] + [
    ("laid", value) for value in odd_values()] + [("bond", value) for value in odd_values()]


def is_kept(size, terms):
    """Whether a promise is true, by the words of the document."""
    width, height, length = size
    if terms[0] == "within":
        return width <= terms[1][0] and height <= terms[1][1] and length == terms[1][2]
    if not can_be_laid(size):
        return False
    return {"laid": True, "bond": has_bond(size), "seams": fewest_seams(size) <= terms[-1] if terms[0] == "seams" else None,
            "bars": width * height // length <= terms[-1] if terms[0] == "bars" else None}[terms[0]]


class Promised(unittest.TestCase):
    def test_each_form_against_all_floors(self):
        for size in ((6, 5, 2), (6, 6, 2), (4, 4, 2), (3, 3, 2), (7, 1, 7), (5, 4, 2), (6, 3, 3), (6, 6, 3), (7, 6, 3), (2, 1, 2), (3, 2, 2), (5, 5, 3)):
            width, height, length = size
            counts = [seams_counted(size, bars) for bars in every_floor(size)]
            least = min(counts) if counts else None
            self.kept(size, ("laid",), bool(counts))
            self.kept(size, ("bond",), least == 0)
            for many in list(range(8)) + [BIG, FORTY]:
                self.kept(size, ("seams", many), bool(counts) and least <= many)
            bars = width * height // length
            for many in (0, 1, bars - 1, bars, bars + 1, BIG, FORTY):
                self.kept(size, ("bars", many), bool(counts) and bars <= many)
            for a in (width - 1, width, width + 1, BIG):
                for b in (height - 1, height, height + 1, BIG):
                    for c in (length, length + 1, BIG):
                        if a > 0 and b > 0:
                            self.kept(size, ("within", (a, b, c)), a >= width and b >= height and c == length)

    def kept(self, size, terms, known):
        project = Project(size)
        with self.subTest(size=size, terms=terms):
            if known:
                self.assertIsNone(project.promise("a", *terms))
                self.assertEqual([project.promises, project["a"], project.deeds, len(project)], [{"a": terms}, terms, ("promise",), 1])
            else:
                with self.assertRaises(Refused) as raised:
                    project.promise("a", *terms)
                self.assertEqual([raised.exception.name, project.promises, project.deeds], ["a", {}, ()])

    def test_great_sizes(self):
        size = (BIG, BIG - 1, 2)
        many = BIG * (BIG - 1) // 2
        self.kept(size, ("laid",), True)
        self.kept(size, ("bond",), True)
        self.kept((BIG, BIG, 3), ("laid",), False)
        self.kept((BIG, BIG, 3), ("bond",), False)
        self.kept((BIG, 2, 2), ("bond",), False)
        self.kept((BIG, 2, 2), ("seams", BIG // 2), True)
        self.kept((BIG, 2, 2), ("seams", BIG // 2 - 1), False)
        self.kept((BIG, 2, 2), ("bars", BIG), True)
        self.kept((BIG, 2, 2), ("bars", BIG - 1), False)
        # There are more bars than an integer of forty digits can tell.
        self.assertGreater(many, FORTY)
        self.kept(size, ("bars", FORTY), False)
        self.kept(size, ("within", (BIG, BIG, 2)), True)
        self.kept(size, ("within", (BIG - 1, BIG, 2)), False)
        self.kept((BIG, 1, BIG), ("bars", 1), True)
        self.kept((BIG, 1, BIG), ("bars", 0), False)
        self.kept((BIG, 1, BIG), ("bond",), True)

    def test_what_is_no_promise(self):
        project = Project(SIZE)
        for terms in NO_PROMISES:
            for name in ("a", "tight", None):
                with self.subTest(name=name, terms=terms), self.assertRaises(InvalidOperation):
                    project.promise(name, *terms)
        self.assertEqual([project.promises, project.deeds], [{}, ()])

    def test_names(self):
        project = Project(SIZE)
        for name in NO_NAMES:
            for terms in (("laid",), ("bond",), ("bars", 0), ("nothing",), ()):
                with self.subTest(name=name, terms=terms), self.assertRaises(InvalidOperation):
                    project.promise(name, *terms)
        for name in ("a", "abcdefgh", "z", "laid"):
            project.promise(name, "laid")
        # A name that is there is wrong before a promise that is not kept.
        for terms in (("laid",), ("bars", 0), ("seams", 3)):
            self.assertRaises(InvalidOperation, project.promise, "a", *terms)
        self.assertEqual(project.promises, {name: ("laid",) for name in ("a", "abcdefgh", "laid", "z")})

    def test_wrong_terms_before_one_that_is_not_kept(self):
        project = Project((3, 3, 2))
        self.assertRaises(InvalidOperation, project.promise, "a", "bond", 1)
        with self.assertRaises(Refused) as raised:
            project.promise("a", "bond")
        self.assertEqual(raised.exception.name, "a")
        project.promise("a", "within", (3, 3, 2))
        self.assertEqual(project["a"], ("within", (3, 3, 2)))

    def test_keys_ascending(self):
        project = Project(SIZE)
        for name in ("m", "z", "b", "ab", "a", "zz"):
            project.promise(name, "bars", 15)
        self.assertEqual(list(project.promises), ["a", "ab", "b", "m", "z", "zz"])
        project.forget("b")
        project.promise("aa", "laid")
        self.assertEqual(list(project.promises), ["a", "aa", "ab", "m", "z", "zz"])

    def test_forget(self):
        project = Project(SIZE)
        project.promise("tight", "bond")
        project.promise("few", "bars", 15)
        self.assertRaises(Refused, project.widen, 1)
        self.assertIsNone(project.forget("few"))
        self.assertEqual([project.promises, project.deeds], [{"tight": ("bond",)}, ("promise", "promise", "forget")])
        self.assertIsNone(project.widen(1))
        self.unknown(project.forget, "few")
        self.unknown(project.__getitem__, "few")
        project.promise("few", "bars", 20)
        self.assertEqual(project["few"], ("bars", 20))

    def unknown(self, call, name):
        with self.subTest(name=name), self.assertRaises(UnknownName) as raised:
            call(name)
        self.assertEqual(raised.exception.name, name)
        self.assertIs(type(raised.exception.name), type(name))

    def test_unknown_names(self):
        project = Project(SIZE)
        for name in NO_NAMES + ["a", "tight", "laid"]:
            self.unknown(project.forget, name)
            self.unknown(lambda name: project[name], name)
            self.assertIs(name in project, False)
        project.promise("tight", "bond")
        for name in NO_NAMES + ["a", "tigh", "tights", "laid", "bond"]:
            self.unknown(project.forget, name)
            self.unknown(lambda name: project[name], name)
            self.assertIs(name in project, False)
            self.assertIs(name not in project, True)
        self.assertIs("tight" in project, True)


class Sized(unittest.TestCase):
    def test_resize_widen_and_heighten(self):
        project = Project((7, 5, 3))
        self.assertIsNone(project.resize((4, 9, 2)))
        self.assertEqual(project.size, (4, 9, 2))
        self.assertIsNone(project.widen(3))
        self.assertEqual(project.size, (10, 9, 2))
        self.assertIsNone(project.heighten(2))
        self.assertEqual(project.size, (10, 13, 2))
        self.assertIsNone(project.widen(0))
        self.assertIsNone(project.heighten(times=0))
        self.assertIsNone(project.widen(times=1))
        self.assertIsNone(project.resize(size=(3, 3, 7)))
        self.assertEqual([project.size, project.deeds], [(3, 3, 7), (
            "resize", "widen", "heighten", "widen", "heighten", "widen", "resize")])

    def test_very_many_lengths(self):
        project = Project((6, 5, 2))
        project.promise("tight", "bond")
        project.widen(10 ** 29)
        project.heighten(10 ** 29)
        self.assertEqual(project.size, (2 * 10 ** 29 + 6, 2 * 10 ** 29 + 5, 2))
        room = (BIG - project.size[0]) // 2
        project.widen(room)
        self.assertEqual(project.size[0], BIG)
        for times in (1, BIG, FORTY):
            self.assertRaises(InvalidSize, project.widen, times)
        self.assertRaises(InvalidSize, project.heighten, BIG)
        project.widen(0)
        self.assertEqual([project.size[0], has_bond(project.size)], [BIG, True])

    def test_wrong_sizes(self):
        for size in NO_SIZES:
            with self.subTest(size=size):
                self.assertRaises(InvalidSize, Project, size)
                project = Project(SIZE)
                self.assertRaises(InvalidSize, project.resize, size)
                project.promise("near", "within", SIZE)
                self.assertRaises(InvalidSize, project.resize, size)
                self.assertEqual([project.size, project.deeds], [SIZE, ("promise",)])

    def test_wrong_times(self):
        project = Project((BIG, BIG, BIG))
        for times in NO_NUMBERS:
            for call in (project.widen, project.heighten):
                with self.subTest(times=times), self.assertRaises(InvalidNumber) as raised:
                    call(times)
                self.assertEqual(raised.exception.value, times)
                self.assertIs(type(raised.exception.value), type(times))
        self.assertRaises(InvalidSize, project.widen, 1)
        self.assertRaises(InvalidSize, project.heighten, FORTY)
        self.assertEqual([project.size, project.deeds], [(BIG, BIG, BIG), ()])

    def refused(self, project, name, call, *args):
        before = (project.size, project.promises, project.deeds)
        with self.subTest(name=name, args=args), self.assertRaises(Refused) as raised:
            call(*args)
        self.assertEqual(raised.exception.name, name)
        self.assertEqual((project.size, project.promises, project.deeds), before)

    def test_the_first_refused_name_ascending(self):
        project = Project(SIZE)
        for name, terms in (("m", ("bars", 15)), ("z", ("bond",)), ("b", ("within", (8, 8, 2))), ("ab", ("laid",)), ("c", ("seams", 0))):
            project.promise(name, *terms)
        self.refused(project, "m", project.widen, 1)
        self.refused(project, "b", project.widen, 2)
        self.refused(project, "m", project.heighten, 1)
        self.refused(project, "b", project.heighten, 2)
        self.refused(project, "ab", project.resize, (7, 7, 2))
        self.refused(project, "ab", project.resize, (9, 7, 2))
        self.refused(project, "b", project.resize, (9, 6, 2))
        self.refused(project, "b", project.resize, (6, 5, 3))
        self.refused(project, "c", project.resize, (6, 6, 2))
        self.refused(project, "c", project.resize, (4, 4, 2))
        project.forget("c")
        self.refused(project, "m", project.resize, (6, 6, 2))
        self.refused(project, "z", project.resize, (4, 4, 2))
        project.forget("m")
        self.refused(project, "z", project.resize, (6, 6, 2))
        self.assertIsNone(project.resize((8, 7, 2)))
        # What is no number, or leads to no size, is wrong before a promise is looked at.
        self.assertRaises(InvalidNumber, project.widen, -1)
        self.assertRaises(InvalidSize, project.widen, BIG)
        self.assertRaises(InvalidSize, project.resize, (9, 9, 1))

    def test_a_bond_can_be_widened_and_heightened_but_for_one_bar(self):
        numbers = Numbers(91)
        for size in ((6, 5, 2), (5, 6, 2), (9, 7, 3), (7, 9, 3), (BIG // 2, 7, 2), (20, 25, 5), (8, 6, 2), (7, 6, 2)):
            project = Project(size)
            project.promise("tight", "bond")
            project.promise("seamless", "seams", 0)
            for _ in range(20):
                call = (project.widen, project.heighten)[numbers.below(2)]
                self.assertIsNone(call(numbers.below((1, 10, 10 ** 9, 10 ** 25)[numbers.below(4)]) + 1))
                self.assertIs(has_bond(project.size), True)
        for size in ((2, 1, 2), (1, 2, 2), (BIG // 3, 1, BIG // 3), (1, 7, 7)):
            project = Project(size)
            project.promise("tight", "bond")
            for call in (project.widen, project.heighten):
                self.refused(project, "tight", call, 1)
                self.assertIsNone(call(0))
        # A size that can be laid stays one that can be laid.
        project = Project((4, 9, 4))
        project.promise("some", "laid")
        self.assertIsNone(project.widen(10 ** 20))
        self.assertIsNone(project.heighten(10 ** 20))


class Model:
    """What the test keeps of a project: all sizes and promises so far, and how many calls are past."""

    def __init__(self, size):
        self.states, self.told, self.past = [(size, {})], [], 0

    def copy(self):
        other = Model(None)
        other.states, other.told, other.past = list(self.states), list(self.told), self.past
        return other

    def add(self, word, size, promises):
        del self.states[self.past + 1:], self.told[self.past:]
        self.states.append((size, promises))
        self.told.append(word)
        self.past += 1


def agree(test, project, model):
    size, promises = model.states[model.past]
    deeds = tuple(model.told[:model.past])
    test.assertEqual([project.size, project.promises, project.deeds, len(project)], [size, promises, deeds, len(promises)])
    test.assertEqual([list(project.promises), [project[name] for name in promises]], [sorted(promises), list(promises.values())])
    test.assertEqual(str(project), "project of %d by %d cells, %d promises" % (size[0], size[1], len(promises)))
    for name in ("a", "b", "c", "d", 1, None):
        test.assertIs(name in project, name in promises)


def step(test, numbers, project, model):
    """One drawn call of the project, and the same at the model."""
    kind = numbers.below(10)
    if kind < 3:
        many = numbers.below(3)
        most = model.past if kind < 2 else len(model.told) - model.past
        call = project.undo if kind < 2 else project.redo
        if many > most:
            test.assertRaises(NothingToUndo, call, many=many)
        else:
            model.past += -many if kind < 2 else many
            test.assertEqual(call(many=many), model.past)
    else:
        changed(test, numbers, project, model, kind)
    agree(test, project, model)


def changed(test, numbers, project, model, kind):
    size, promises = model.states[model.past]
    name = "abcd"[numbers.below(4)]
    if kind < 6:
        terms = (("laid",), ("bond",), ("seams", numbers.below(3)), ("bars", 10 + numbers.below(300)),
                 ("within", (size[0] + numbers.below(9), size[1] + numbers.below(9), size[2])), ("seams", -1), ("bond", 1))[numbers.below(7)]
        if name in promises or terms in (("seams", -1), ("bond", 1)):
            test.assertRaises(InvalidOperation, project.promise, name, *terms)
        elif not is_kept(size, terms):
            test.assertRaises(Refused, project.promise, name, *terms)
        else:
            test.assertIsNone(project.promise(name, *terms))
            model.add("promise", size, {**promises, name: terms})
        return
    if kind == 6:
        if name in promises:
            test.assertIsNone(project.forget(name))
            model.add("forget", size, {other: terms for other, terms in promises.items() if other != name})
        else:
            test.assertRaises(UnknownName, project.forget, name)
        return
    times = numbers.below(4) - 1
    word = ("widen", "heighten", "resize")[kind - 7]
    behind = {"widen": (size[0] + times * size[2], size[1], size[2]), "heighten": (size[0], size[1] + times * size[2], size[2]),
              "resize": (1 + numbers.below(20), 1 + numbers.below(12), size[2])}[word]
    call, value = getattr(project, word), behind if word == "resize" else times
    broken = [other for other, terms in sorted(promises.items()) if not is_kept(behind, terms)] if behind[0] > 0 and behind[1] > 0 else []
    if word != "resize" and times < 0:
        test.assertRaises(InvalidNumber, call, value)
    elif broken:
        with test.assertRaises(Refused) as raised:
            call(value)
        test.assertEqual(raised.exception.name, broken[0])
    else:
        test.assertIsNone(call(value))
        model.add(word, behind, promises)


def drawn():
    for size in ((6, 5, 2), (2, 1, 2), (9, 7, 3), (4, 4, 2), (3, 3, 2), (12, 6, 3), (1, 7, 7), (5, 8, 4), (BIG - 50, 9, 2)):
        yield Project(size), Model(size)


class Halt(Exception):
    """What a block of a test ends by."""


class Undone(unittest.TestCase):
    def test_drawn_calls(self):
        numbers = Numbers(92)
        for project, model in drawn():
            for _ in range(150):
                step(self, numbers, project, model)
            last = model.copy()
            self.assertEqual(project.undo(many=model.past), 0)
            model.past = 0
            agree(self, project, model)
            self.assertEqual(project.redo(many=len(model.told)), len(model.told))
            model.past = len(model.told)
            agree(self, project, model)
            project.undo(many=model.past - last.past)
            agree(self, project, last)

    def test_by_hand(self):
        project = Project(SIZE)
        project.promise("tight", "bond")
        project.widen(2)
        project.forget("tight")
        project.resize((4, 4, 2))
        self.assertEqual(project.deeds, ("promise", "widen", "forget", "resize"))
        self.assertEqual([project.undo(), project.size, project.promises], [3, (10, 5, 2), {}])
        self.assertEqual([project.undo(many=2), project.size, project.promises], [1, SIZE, {"tight": ("bond",)}])
        self.assertEqual([project.undo(), project.size, project.promises, project.deeds], [0, SIZE, {}, ()])
        self.assertEqual([project.redo(many=3), project.size, project.promises], [3, (10, 5, 2), {}])
        # A refused call keeps redoing, a new one ends it.
        self.assertRaises(UnknownName, project.forget, "tight")
        self.assertRaises(Refused, project.promise, "b", "bars", 1)
        self.assertEqual([project.redo(), project.size, project.undo()], [4, (4, 4, 2), 3])
        project.heighten(0)
        self.assertRaises(NothingToUndo, project.redo)
        self.assertEqual(project.deeds, ("promise", "widen", "forget", "heighten"))

    def test_wrong_numbers(self):
        project = Project(SIZE)
        project.widen(1)
        project.widen(1)
        project.undo()
        for many in NO_NUMBERS:
            for call in (project.undo, project.redo):
                with self.subTest(many=many), self.assertRaises(InvalidNumber) as raised:
                    call(many=many)
                self.assertEqual(raised.exception.value, many)
                self.assertIs(type(raised.exception.value), type(many))
        for many in (2, 3, BIG, FORTY):
            for call in (project.undo, project.redo):
                with self.subTest(many=many), self.assertRaises(NothingToUndo) as raised:
                    call(many=many)
                self.assertEqual(raised.exception.many, many)
        self.assertEqual([project.undo(many=0), project.redo(many=0), project.redo(), project.undo(many=2)], [1, 1, 2, 0])
        self.assertRaises(NothingToUndo, project.undo)
        self.assertRaises(TypeError, project.undo, 1)
        self.assertRaises(TypeError, project.redo, 1)

    def test_blocks(self):
        numbers = Numbers(93)
        for project, model in drawn():
            for _ in range(20):
                step(self, numbers, project, model)
            kept = model.copy()
            with project.trial() as same:
                self.assertIs(same, project)
                for _ in range(10):
                    step(self, numbers, project, model)
                inner = model.copy()
                with self.assertRaises(Halt):
                    with project.trial() as again:
                        self.assertIs(again, project)
                        for _ in range(10):
                            step(self, numbers, project, model)
                        raise Halt()
                model = inner
                agree(self, project, model)
                for _ in range(5):
                    step(self, numbers, project, model)
            agree(self, project, kept)
            model = kept
            for _ in range(10):
                step(self, numbers, project, model)

    def test_it_is_as_when_the_block_began(self):
        project = Project(SIZE)
        trial = project.trial()
        project.widen(1)
        for _ in range(2):
            with trial as same:
                same.undo()
                with trial:
                    same.resize((3, 3, 3))
                self.assertEqual([project.size, project.deeds], [SIZE, ()])
            self.assertEqual([project.size, project.deeds], [(8, 5, 2), ("widen",)])
        self.assertRaises(NothingToUndo, project.redo)

    def test_during(self):
        project = Project(SIZE)
        project.promise("tight", "bond")
        self.assertEqual(project.during(lambda same: (same is project, same.widen(1), same.size, same.deeds)),
                         (True, None, (8, 5, 2), ("promise", "widen")))
        self.assertEqual([project.size, project.deeds], [SIZE, ("promise",)])
        self.assertEqual([project.during(len), project.during(call=str)], [1, "project of 6 by 5 cells, 1 promises"])
        self.assertIsNone(project.during(lambda same: same.forget("tight")))
        self.assertRaises(Refused, project.during, lambda same: same.widen(3) or same.resize((6, 6, 2)))
        self.assertEqual([project.size, project.promises, project.deeds], [SIZE, {"tight": ("bond",)}, ("promise",)])

    def test_twins_go_their_own_way(self):
        numbers = Numbers(94)
        for project, model in drawn():
            for _ in range(15):
                step(self, numbers, project, model)
            twin, other = project.twin(), model.copy()
            self.assertIsInstance(twin, Project)
            self.assertIs(twin == project, True)
            for _ in range(15):
                step(self, numbers, project, model)
                agree(self, twin, other)
            for _ in range(15):
                step(self, numbers, twin, other)
                agree(self, project, model)


class Held(unittest.TestCase):
    def test_promises_are_a_copy(self):
        project = Project(SIZE)
        project.promise("tight", "bond")
        given = project.promises
        given["loose"] = ("laid",)
        del given["tight"]
        self.assertEqual([project.promises, len(project), "loose" in project], [{"tight": ("bond",)}, 1, False])
        project.forget("tight")
        project.undo()
        self.assertEqual(project.promises, {"tight": ("bond",)})

    def test_equal(self):
        one, other = Project(SIZE), Project(SIZE)
        self.same(one, other, True)
        one.promise("a", "laid")
        self.same(one, other, False)
        other.promise("b", "laid")
        self.same(one, other, False)
        one.promise("b", "laid")
        other.promise("a", "laid")
        self.same(one, other, True)
        # Deeds do not count, and the order of the promises neither.
        one.widen(1)
        self.same(one, other, False)
        one.resize(SIZE)
        self.same(one, other, True)
        one.forget("a")
        one.promise("a", "seams", 1)
        self.same(one, other, False)
        self.same(Project((6, 5, 2)), Project((5, 6, 2)), False)
        self.same(Project((6, 6, 2)), Project((6, 6, 3)), False)

    def same(self, one, other, equal):
        for left, right in ((one, other), (other, one)):
            self.assertIs(left == right, equal)
            self.assertIs(left != right, not equal)

    def test_other_values(self):
        project = Project(SIZE)
        for value in odd_values() + [0, SIZE, str(project), {}, Plan(SIZE, (0, 0, 6, 5, "across")), Floor.plain(SIZE)]:
            with self.subTest(value=value):
                self.same(project, value, False)

    def test_str(self):
        project = Project(SIZE)
        self.assertEqual(str(project), "project of 6 by 5 cells, 0 promises")
        project.promise("a", "laid")
        self.assertEqual(str(project), "project of 6 by 5 cells, 1 promises")
        project.promise("b", "laid")
        self.assertEqual(str(project), "project of 6 by 5 cells, 2 promises")

    def test_cannot_be_iterated_over(self):
        project = Project(SIZE)
        project.promise("a", "laid")
        for call in (iter, list, tuple, sorted, lambda project: (*project,), dict):
            self.assertRaises(TypeError, call, project)

    def test_properties_are_only_read(self):
        project = Project(SIZE)
        for name in ("size", "promises", "deeds"):
            with self.assertRaises(AttributeError):
                setattr(project, name, ())
        self.assertEqual([project.size, project.promises, project.deeds], [SIZE, {}, ()])

    def test_defined_in_this_module(self):
        self.assertEqual(Project.__module__, "bondfloors.house.project")
        self.assertIs(module.Project, Project)
        for name in ("size", "promises", "deeds", "promise", "forget", "resize", "widen", "heighten", "undo", "redo", "trial", "during",
                     "twin", "__getitem__", "__contains__", "__len__", "__eq__", "__str__", "__init__"):
            self.assertIn(name, vars(Project))

    def test_examples(self):
        project = Project((6, 5, 2))
        self.assertIsNone(project.promise("tight", "bond"))
        self.assertEqual([project.widen(10 ** 20), project.size, project.undo(), project.promises, project.deeds],
                         [None, (200000000000000000006, 5, 2), 1, {"tight": ("bond",)}, ("promise",)])


if __name__ == "__main__":
    unittest.main()
