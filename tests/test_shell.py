"""Stage 16: a shell, with [16.1]."""

import unittest

from bondfloors.among.turns import turned, turnings
from bondfloors.base.floors import Floor
from bondfloors.errors import (
    InvalidCommand, InvalidFloor, InvalidLine, InvalidNumber, InvalidOperation, InvalidSize, ParseError, TooMany, Unlaid, UnknownName,
)
from bondfloors.grow.rooms import room_list
from bondfloors.grow.steps import heightened, widened
from bondfloors.lines.crossings import crossings, seams
from bondfloors.plans.fewest import fewest_seams
from bondfloors.sizes.verdicts import has_bond
from bondfloors.text import shell as module
from bondfloors.text.shell import MAX_FLOORS, Shell
from bondfloors.text.texts import write_floor
from tests.drawn import Numbers, drawn_floor
from tests.helper import BIG, FORTY, five, odd_values

FIVE = five()
FIVE_TEXT = write_floor(FIVE)
BAR_TEXT = "floor 2 1 2\n>-"
FORTY_ONE = "1" + 40 * "0"
# One right command of each kind, where a and b are floors.
RIGHT = ("copy a c", "turn a 1 0", "widen a 1", "heighten a 0", "text a", "line a upright 2", "line b level 1", "seams a", "rooms a",
         "bond 6 5 2", "fewest 6 6 2", "drop b")
DEEDS = ("new", "copy", "drop", "turn", "widen", "heighten")


def made():
    """A shell with the floors a and b."""
    shell = Shell()
    shell.run("new a\n" + FIVE_TEXT)
    shell.run("new b\nfloor 4 2 2\nvv>-\n||>-")
    return shell


def state(shell):
    return (shell.names, [(name, floor.bars) for name, floor in shell.floors.items()], shell.script, len(shell), str(shell))


class Asking(unittest.TestCase):
    def refused(self, shell, command, error, **kept):
        """The error, with the attributes that it keeps; and nothing is changed."""
        before = state(shell)
        for call in (shell.run, shell):
            with self.subTest(command=command), self.assertRaises(error) as raised:
                call(command)
            for name, value in kept.items():
                self.assertEqual(getattr(raised.exception, name), value)
        self.assertEqual(state(shell), before)


class Commands(Asking):
    def test_at_first(self):
        shell = Shell()
        self.assertEqual([shell.names, shell.floors, shell.script, len(shell), str(shell)], [(), {}, (), 0, "shell of 0 floors"])

    def test_new(self):
        shell = Shell()
        self.assertEqual(shell.run("new a\n" + FIVE_TEXT), "floor of 6 by 5 cells, 15 bars")
        self.assertEqual(shell("new b\n" + BAR_TEXT), "floor of 2 by 1 cells, 1 bars")
        self.assertEqual([shell.names, shell.floors], [("a", "b"), {"a": FIVE, "b": Floor.plain((2, 1, 2))}])
        self.assertEqual(str(shell), "shell of 2 floors")

    def test_new_with_texts_that_are_none(self):
        shell = made()
        for text, line in (("", 0), ("\n", 0), (" ", 0), ("floor 2 1\n>-", 0), (" " + BAR_TEXT, 0), (BAR_TEXT + "\n", 2), (BAR_TEXT + " ", 1),
                           ("floor 2 1 2\n\n>-", 1), ("floor 02 1 2\n>-", 0), (f"floor {FORTY_ONE} 1 2\n>-", 0), ("\n" + BAR_TEXT, 0),
                           ("plan 2 1 2\n0 0 2 1 across", 0), ("floor 2 1 2\n>=", 1), (FIVE_TEXT + "\nx", 6), ("floor 9 9 9\n?\n?", 1)):
            self.refused(shell, "new c\n" + text, ParseError, line=line)
        for text in ("floor 2 1 2", "floor 2 1 2\n>>", "floor 2 2 2\n>-", "floor 3 1 2\n>-", "floor 2 1 3\n>-", f"floor {FORTY} 1 2\n>-",
                     "floor 401 1 401\n>" + 400 * "-", "floor 0 0 0\n>-", BAR_TEXT + "\n>-"):
            self.refused(shell, "new c\n" + text, InvalidFloor)

    def test_copy_and_drop(self):
        shell = made()
        self.assertIsNone(shell("copy a z"))
        self.assertEqual(shell("turn a 1 0"), 1)
        self.assertEqual(shell.floors, {"a": turned(FIVE, 1, 0), "b": shell.floors["b"], "z": FIVE})
        self.assertIsNone(shell("drop a"))
        self.assertEqual([shell.names, "a" in shell], [("b", "z"), False])
        self.refused(shell, "text a", UnknownName, name="a")
        self.assertIsNone(shell("copy z a"))
        self.assertEqual([shell.floors["a"], shell("turn z 1 0"), shell.floors["a"]], [FIVE, 1, FIVE])

    def test_changes_and_questions(self):
        shell = made()
        self.assertEqual([shell("turn a 1 0"), shell.floors["a"]], [1, turned(FIVE, 1, 0)])
        self.assertEqual([shell("turn a 1 0"), shell("widen a 2"), shell("heighten a 1"), shell("widen a 0")], [0, 0, 0, 0])
        floor = heightened(widened(FIVE, times=2))
        self.assertEqual([shell.floors["a"], shell("text a")], [floor, write_floor(floor)])
        for c in range(1, 10):
            self.assertEqual(shell(f"line a upright {c}"), crossings(floor, ("upright", c)))
        self.assertEqual([shell("seams a"), shell("seams b")], [(), (("upright", 1), ("upright", 2))])
        self.assertEqual([shell("rooms a"), shell("rooms b")], [1, 4])
        self.assertEqual([shell("line b level 1"), shell("line b upright 2"), shell("widen b 1"), shell("heighten b 1")], [2, 0, 3, 3])
        self.assertEqual([shell("bond 6 5 2"), shell("bond 6 6 2"), shell("bond 3 3 2"), shell(f"bond {BIG} 7 2")], [True, False, False, True])
        self.assertEqual([shell("fewest 6 5 2"), shell("fewest 4 4 2"), shell(f"fewest {BIG} 5 5")], [0, 2, fewest_seams((BIG, 5, 5))])

    def test_kinds_of_replies(self):
        shell = made()
        for command, kind in (("turn a 1 0", int), ("widen a 1", int), ("text a", str), ("line a level 1", int), ("seams a", tuple),
                              ("rooms a", int), ("bond 6 5 2", bool), ("fewest 6 5 2", int)):
            self.assertIs(type(shell(command)), kind)

    def test_errors_of_what_is_called(self):
        shell = made()
        for command, value in (("turn a 6 0", 6), ("turn a 0 5", 5), ("turn a 6 5", 6), (f"turn a {FORTY} 9", FORTY), ("turn b 4 9", 4)):
            self.refused(shell, command, InvalidNumber, value=value)
        for command in ("turn a 0 0", "turn a 5 4", "turn b 1 0"):
            self.refused(shell, command, InvalidOperation)
        for command in ("widen a 38", "heighten a 31", f"widen a {FORTY}", f"heighten b {BIG}"):
            self.refused(shell, command, TooMany, limit=400)
        for command in ("line a upright 0", "line a upright 6", "line a level 5", f"line a level {FORTY}", "line b level 2"):
            self.refused(shell, command, InvalidLine)
        for command in ("0 5 2", "6 0 2", "6 5 1", "6 5 0", f"{BIG + 1} 5 2", f"6 {FORTY} 2", f"6 5 {BIG + 1}"):
            self.refused(shell, "bond " + command, InvalidSize)
            self.refused(shell, "fewest " + command, InvalidSize)
        self.refused(shell, "fewest 3 3 2", Unlaid, value=(3, 3, 2))
        self.refused(shell, f"fewest {BIG} {BIG} 3", Unlaid, value=(BIG, BIG, 3))

    def test_400_cells(self):
        shell = made()
        self.assertEqual([shell("widen a 37"), shell.floors["a"].size], [0, (80, 5, 2)])
        self.refused(shell, "widen a 1", TooMany, limit=400)
        self.assertEqual([shell("widen a 0"), shell("heighten a 0")], [0, 0])


class NoCommands(Asking):
    def test_what_is_no_string(self):
        shell = made()
        for value in odd_values() + [0, ("text a",), ["text a"], {"text a": 1}, ("text", "a"), b"text a", FIVE, shell]:
            self.refused(shell, value, InvalidCommand)

    def test_words_left_out_doubled_exchanged_and_added(self):
        shell = made()
        for command in RIGHT:
            words = command.split(" ")
            wrong = [words[:at] + words[at + 1:] for at in range(len(words))]
            wrong += [words[:at] + [words[at]] + words[at:] for at in range(len(words))]
            wrong += [words + [word] for word in ("a", "1", "upright", "x")] + [words[1:] + words[:1], ["x"] + words, ["a"] + words]
            wrong += [[words[0].upper()] + words[1:], [words[0].title()] + words[1:], [words[0] + "s"] + words[1:], [words[0][:-1]] + words[1:]]
            for other in wrong:
                self.refused(shell, " ".join(other), InvalidCommand)
        for command in ("copy 1 a", "turn 1 0 a", "turn 1 a 0", "line a 2 upright", "line upright a 2", "line 2 upright a", "widen 1 a",
                        "bond a 5 2", "bond 6 a 2", "fewest 6 5 a", "line a across 1", "line a down 1", "line a Upright 1", "line a level level",
                        "turn a upright 0", "widen a a", "bond 6 5", "bond 6 5 2 2", "bond a", "undo", "redo", "names", "script", "", " ", "a", "new",
                        "new a", "new a b", "new  a", "rows a", "add a", "plan a", "help", "5", "text", "seams"):
            self.refused(shell, command, InvalidCommand)

    def test_blanks(self):
        shell = made()
        for command in RIGHT:
            for other in (" " + command, command + " ", command.replace(" ", "  "), command.replace(" ", "  ", 1), command.replace(" ", "_"),
                          command.replace(" ", ","), command.replace(" ", ""), command.replace(" ", "\n", 1), command.replace(" ", "~", 1)):
                self.refused(shell, other, InvalidCommand)
        for other in (" new c\n", "new c \n", "new  c\n", "new c  \n", "new\n", "new \n", "new\nc\n", "\nnew c\n"):
            self.refused(shell, other + BAR_TEXT, InvalidCommand)

    def test_further_lines(self):
        shell = made()
        for command in RIGHT:
            for other in ("\n" + command, command + "\n", command + "\n" + command, command + "\n" + BAR_TEXT, command + "\n\n", command + "\n "):
                self.refused(shell, other, InvalidCommand)

    def test_new_without_a_line_below_it(self):
        shell = made()
        for command in ("new c", "new a", "new c " + BAR_TEXT.replace("\n", " "), "new", "new c floor"):
            self.refused(shell, command, InvalidCommand)
        # With a line below it, though an empty one, it is a command.
        self.refused(shell, "new c\n", ParseError, line=0)
        self.refused(shell, "new c d\n" + BAR_TEXT, InvalidCommand)

    def test_names(self):
        shell = made()
        for name in ("A", "aB", "a1", "1", "abcdefghi", "a_b", "-", "", "a.", "~", "0", "upright1"):
            for command in (f"new {name}\n{BAR_TEXT}", f"copy {name} c", f"copy a {name}", f"drop {name}", f"turn {name} 1 0", f"widen {name} 1",
                            f"heighten {name} 1", f"text {name}", f"line {name} level 1", f"seams {name}", f"rooms {name}"):
                self.refused(shell, command, InvalidCommand)
        for name in ("c", "abcdefgh", "upright", "level", "new", "text", "z"):
            self.assertEqual(shell(f"new {name}\n{BAR_TEXT}"), "floor of 2 by 1 cells, 1 bars")
            self.assertEqual(shell(f"text {name}"), BAR_TEXT)
            self.assertIsNone(shell(f"drop {name}"))

    def test_numbers(self):
        shell = made()
        for number in ("01", "00", "-1", "+1", "-0", "1.0", "1e1", "0x1", "1_0", "", "one", FORTY_ONE, "9" * 41, "0" * 40, "a", "1,"):
            for command in (f"turn a {number} 0", f"turn a 1 {number}", f"widen a {number}", f"heighten a {number}", f"line a upright {number}",
                            f"bond {number} 5 2", f"bond 6 {number} 2", f"bond 6 5 {number}", f"fewest {number} 5 2", f"fewest 6 5 {number}"):
                self.refused(shell, command, InvalidCommand)
        # Forty figures have the form of a number.
        for number in ("9" * 40, "1" + "0" * 39):
            self.refused(shell, f"turn a {number} 0", InvalidNumber, value=int(number))
            self.refused(shell, f"widen a {number}", TooMany, limit=400)
            self.refused(shell, f"bond 6 5 {number}", InvalidSize)
            self.refused(shell, f"line a level {number}", InvalidLine)

    def test_wrong_words_come_before_unknown_names(self):
        shell = made()
        for command in ("turn x 01 0", "turn x 1", "line x up 1", "copy x", "copy x Y", "text x\n", "drop x y", "widen x -1"):
            self.refused(shell, command, InvalidCommand)


class Names(Asking):
    def test_unknown_names(self):
        shell = made()
        for command in ("copy x c", "drop x", "turn x 1 0", "widen x 1", "heighten x 1", "text x", "line x level 1", "seams x", "rooms x"):
            self.refused(shell, command, UnknownName, name="x")
            self.refused(Shell(), command, UnknownName, name="x")
        # Before what else is wrong: a name that is there, a wrong number, a wrong line.
        for command in ("copy x a", "copy x x", f"turn x {FORTY} {FORTY}", f"widen x {FORTY}", "line x level 0"):
            self.refused(shell, command, UnknownName, name="x")

    def test_names_that_are_there(self):
        shell = made()
        for command in ("copy a b", "copy b a", "copy a a", "new a\n" + BAR_TEXT, "new b\n" + FIVE_TEXT):
            self.refused(shell, command, InvalidOperation)
        # Before the errors of the text.
        for text in ("", "floor", "floor 2 1 2\n>>", BAR_TEXT + "\n"):
            self.refused(shell, "new a\n" + text, InvalidOperation)

    def test_a_ninth_floor_comes_last(self):
        self.assertEqual(MAX_FLOORS, 8)
        shell = made()
        for name in ("c", "d", "e", "f", "g", "h"):
            shell(f"copy a {name}")
        self.assertEqual(len(shell), 8)
        self.refused(shell, "copy a i", TooMany, limit=8)
        self.refused(shell, "new i\n" + BAR_TEXT, TooMany, limit=8)
        # Together with other errors.
        self.refused(shell, "copy x i", UnknownName, name="x")
        self.refused(shell, "copy a b", InvalidOperation)
        self.refused(shell, "new a\n" + BAR_TEXT, InvalidOperation)
        self.refused(shell, "new i\n" + BAR_TEXT + "\n", ParseError, line=2)
        self.refused(shell, "new i\nfloor 2 1 2\n>>", InvalidFloor)
        self.refused(shell, "new i", InvalidCommand)
        # Dropping makes room again.
        self.assertIsNone(shell("drop h"))
        self.assertIsNone(shell("copy a i"))
        self.refused(shell, "copy a h", TooMany, limit=8)
        self.assertEqual([shell("widen i 1"), shell("drop i"), shell("new h\n" + BAR_TEXT)], [0, None, "floor of 2 by 1 cells, 1 bars"])

    def test_ascending(self):
        shell = Shell()
        for name in ("m", "b", "zz", "a", "ab", "z"):
            shell(f"new {name}\n{BAR_TEXT}")
        self.assertEqual(shell.names, ("a", "ab", "b", "m", "z", "zz"))
        self.assertEqual(list(shell.floors), ["a", "ab", "b", "m", "z", "zz"])
        shell("drop m")
        shell("copy a aa")
        self.assertEqual([shell.names, list(shell.floors)], [("a", "aa", "ab", "b", "z", "zz")] + [["a", "aa", "ab", "b", "z", "zz"]])

    def test_in(self):
        shell = made()
        for value, known in (("a", True), ("b", True), ("c", False), ("", False), ("ab", False), ("A", False), ("a ", False)):
            self.assertIs(value in shell, known)
            self.assertIs(value not in shell, not known)
        for value in odd_values() + [0, ("a",), ["a"], {"a": 1}, FIVE, shell, b"a"]:
            self.assertIs(value in shell, False)


def drawn_command(numbers, floors):
    """A command, most often a right one."""
    names = "abcdefghij"
    name = names[numbers.below(10)]
    if floors and numbers.below(8):
        name = sorted(floors)[numbers.below(len(floors))]
    kind = numbers.below(12)
    if kind < 2:
        size = ((6, 5, 2), (4, 2, 2), (2, 1, 2), (6, 6, 3), (9, 7, 3), (1, 4, 4))[numbers.below(6)]
        return f"new {names[numbers.below(10)]}\n{write_floor(drawn_floor(numbers, size, 30))}" + "\n" * (numbers.below(6) == 0)
    if kind < 5:
        places = turnings(floors[name]) if name in floors else ()
        x, y = places[numbers.below(len(places))] if places and numbers.below(5) else (numbers.below(7), numbers.below(6))
        return f"turn {name} {x} {y}"
    return (f"copy {name} {names[numbers.below(10)]}", f"drop {name}", f"widen {name} {numbers.below(4)}", f"heighten {name} {numbers.below(4)}",
            f"text {name}", f"line {name} {('upright', 'level')[numbers.below(2)]} {numbers.below(8)}",
            f"bond {numbers.below(9)} {numbers.below(9)} 2")[kind - 5]


def expected(floors, command):
    """The reply and the floors behind a command, by plain functions."""
    head, _, text = command.partition("\n")
    word, *words = head.split(" ")
    if word == "bond":
        return has_bond(tuple(int(value) for value in words)), floors
    name = words[0]
    if word != "new" and name not in floors:
        raise UnknownName(name)
    if word in ("new", "copy"):
        if words[-1] in floors:
            raise InvalidOperation("there")
        floor = module.read_floor(text) if word == "new" else floors[name]
        if len(floors) == 8:
            raise TooMany(8)
        return (str(floor) if word == "new" else None), {**floors, words[-1]: floor}
    if word == "drop":
        return None, {other: floor for other, floor in floors.items() if other != name}
    if word in ("turn", "widen", "heighten"):
        values = [int(value) for value in words[1:]]
        calls = {"turn": turned, "widen": lambda floor, times: widened(floor, times=times), "heighten": lambda floor, times: heightened(floor, times=times)}
        floor = calls[word](floors[name], *values)
        return len(seams(floor)), {**floors, name: floor}
    if word == "line":
        return crossings(floors[name], (words[1], int(words[2]))), floors
    return write_floor(floors[name]), floors


class Scripts(Asking):
    def test_drawn_commands(self):
        for seed in range(12):
            numbers = Numbers(100 + seed)
            shell, floors, script, refused = Shell(), {}, [], 0
            for _ in range(90):
                command = drawn_command(numbers, floors)
                call = (shell.run, shell)[numbers.below(2)]
                try:
                    reply, behind = expected(floors, command)
                except Exception as error:
                    self.refused(shell, command, type(error))
                    refused += 1
                else:
                    self.assertEqual(call(command), reply)
                    floors = behind
                    if command.split(" ")[0] in DEEDS:
                        script.append(command)
                self.assertEqual([shell.floors, shell.names, shell.script], [floors, tuple(sorted(floors)), tuple(script)])
                self.assertEqual([len(shell), str(shell)], [len(floors), f"shell of {len(floors)} floors"])
            self.assertGreater(refused, 5)
            again = Shell.replayed(shell.script)
            self.assertEqual([again == shell, again.script, again.floors], [True, shell.script, floors])
            for many in (0, 1, len(script) // 2, len(script) - 1):
                part = Shell.replayed(shell.script[:many])
                self.assertEqual([part.script, len(part.script)], [shell.script[:many], many])
                for command in shell.script[many:]:
                    part(command)
                self.assertIs(part == shell, True)

    def test_what_is_kept(self):
        shell = made()
        for command in RIGHT:
            shell(command)
        self.assertEqual(shell.script, made().script + ("copy a c", "turn a 1 0", "widen a 1", "heighten a 0", "drop b"))

    def test_other_commands_in_a_script(self):
        script = ("new a\n" + FIVE_TEXT, "text a", "bond 6 6 2", "turn a 1 0", "seams a", "fewest 4 4 2", "rooms a", "line a level 1")
        shell = Shell.replayed(script)
        self.assertEqual([shell.script, shell.floors], [(script[0], script[3]), {"a": turned(FIVE, 1, 0)}])
        # They are done, too, so that their errors come.
        self.assertRaises(UnknownName, Shell.replayed, ("text a",))
        self.assertRaises(InvalidSize, Shell.replayed, script + ("bond 0 0 0",))
        self.assertRaises(InvalidLine, Shell.replayed, script[:1] + ("line a level 9",))

    def test_wrong_scripts(self):
        for value in odd_values() + [0, "new a\n" + BAR_TEXT, ["new a\n" + BAR_TEXT], {"text a": 1}, FIVE, made()]:
            if value != ():
                with self.subTest(value=value), self.assertRaises(InvalidCommand):
                    Shell.replayed(value)
        self.assertEqual([Shell.replayed(()).script, len(Shell.replayed(()))], [(), 0])
        first = "new a\n" + BAR_TEXT
        for script, error in (((first, first), InvalidOperation), ((first, None), InvalidCommand), ((None, first), InvalidCommand),
                              ((first, ["text a"]), InvalidCommand), (("drop a", first), UnknownName), ((first, "turn a 0 0"), InvalidOperation),
                              ((first, "turn a 2 0"), InvalidNumber), ((first, "new b\n"), ParseError), ((first, "widen a 200"), TooMany),
                              ((first,) + tuple(f"copy a {name}" for name in "bcdefghi"), TooMany), ((first, "text a\n"), InvalidCommand)):
            with self.subTest(script=script), self.assertRaises(error):
                Shell.replayed(script)

    def test_dropping_and_making_again(self):
        shell = Shell()
        for _ in range(12):
            shell("new a\n" + BAR_TEXT)
            shell("widen a 1")
            shell("drop a")
        self.assertEqual([len(shell), len(shell.script), shell == Shell(), shell == Shell.replayed(shell.script)], [0, 36, True, True])


class Held(unittest.TestCase):
    def test_floors_are_a_copy(self):
        shell = made()
        given = shell.floors
        given["c"] = FIVE
        del given["a"]
        self.assertEqual([shell.names, "c" in shell, "a" in shell, len(shell)], [("a", "b"), False, True, 2])
        before = shell.floors["a"]
        shell("turn a 1 0")
        self.assertEqual([before, shell.floors["a"]], [FIVE, turned(FIVE, 1, 0)])

    def same(self, one, other, equal):
        for left, right in ((one, other), (other, one)):
            self.assertIs(left == right, equal)
            self.assertIs(left != right, not equal)

    def test_equal(self):
        one, other = made(), Shell()
        self.same(one, other, False)
        other("new b\nfloor 4 2 2\nvv>-\n||>-")
        other("new a\n" + FIVE_TEXT)
        self.same(one, other, True)
        # Scripts do not count.
        one("turn a 1 0")
        self.same(one, other, False)
        one("turn a 1 0")
        self.same(one, other, True)
        one("copy a c")
        self.same(one, other, False)
        one("drop a")
        self.same(one, other, False)
        self.same(Shell(), Shell(), True)

    def test_other_values(self):
        for shell in (made(), Shell()):
            for value in odd_values() + [0, shell.floors, str(shell), shell.names, FIVE]:
                with self.subTest(value=value):
                    self.same(shell, value, False)

    def test_str_and_len(self):
        shell = Shell()
        for many, name in enumerate("abcdefgh"):
            self.assertEqual([str(shell), len(shell)], [f"shell of {many} floors", many])
            shell(f"new {name}\n{BAR_TEXT}")
        self.assertEqual(str(shell), "shell of 8 floors")

    def test_cannot_be_iterated_over(self):
        for call in (iter, list, tuple, sorted, lambda shell: (*shell,)):
            self.assertRaises(TypeError, call, made())

    def test_properties_are_only_read(self):
        shell = made()
        for name in ("names", "floors", "script"):
            with self.assertRaises(AttributeError):
                setattr(shell, name, ())
        self.assertEqual([shell.names, len(shell.script)], [("a", "b"), 2])

    def test_shells_are_apart(self):
        one, other = made(), made()
        one("drop a")
        self.assertEqual([one.names, other.names, len(one.script), len(other.script)], [("b",), ("a", "b"), 3, 2])

    def test_by_keyword(self):
        shell = Shell.replayed(script=("new a\n" + BAR_TEXT,))
        self.assertEqual([shell.run(command="text a"), shell("rooms a")], [BAR_TEXT, len(room_list(Floor.plain((2, 1, 2))))])

    def test_defined_in_this_module(self):
        self.assertEqual(Shell.__module__, "bondfloors.text.shell")
        for name in ("run", "__call__", "names", "floors", "script", "replayed", "__contains__", "__len__", "__eq__", "__str__", "__init__"):
            self.assertIn(name, vars(Shell))

    def test_examples(self):
        shell = Shell()
        self.assertEqual(
            [shell("new a\n" + write_floor(FIVE)), shell("turn a 1 0"), shell("line a upright 2"), shell("turn a 1 0"), shell("widen a 1"),
             shell("rooms a"), shell("fewest 6 6 2"), shell("bond 8 6 2")],
            ["floor of 6 by 5 cells, 15 bars", 1, 0, 0, 0, 1, 1, True],
        )


if __name__ == "__main__":
    unittest.main()
