"""A shell: floors under names, and commands of words."""

from bondfloors.among.turns import turned
from bondfloors.base.words import is_name
from bondfloors.errors import InvalidCommand, InvalidOperation, TooMany, UnknownName
from bondfloors.grow.rooms import room_list
from bondfloors.grow.steps import heightened, widened
from bondfloors.lines.crossings import crossings, is_line_way, seams
from bondfloors.plans.fewest import fewest_seams
from bondfloors.sizes.verdicts import has_bond
from bondfloors.text.texts import is_number, read_floor, write_floor

MAX_FLOORS = 8


def put_new(floors, name, floor):
    """Puts a floor under a new name."""
    if len(floors) == MAX_FLOORS:
        raise TooMany(MAX_FLOORS)
    floors[name] = floor


def put_changed(floors, name, floor):
    """Puts a floor in the place of another one; returns the number of its seams."""
    floors[name] = floor
    return len(seams(floor))


def do_new(floors, name, text):
    """Makes a floor of the text; returns what it is."""
    floor = read_floor(text)
    put_new(floors, name, floor)
    return str(floor)


def do_copy(floors, name, other):
    """Puts the floor under another name, too."""
    # A floor never changes, so that the same one can stand under both names.
    put_new(floors, other, floors[name])


def do_drop(floors, name):
    """Takes the floor out."""
    del floors[name]


def do_turn(floors, name, x, y):
    """Turns a turning of the floor; returns the number of its seams."""
    return put_changed(floors, name, turned(floors[name], x, y))


def do_widen(floors, name, times):
    """Widens the floor so many times; returns the number of its seams."""
    return put_changed(floors, name, widened(floors[name], times=times))


def do_heighten(floors, name, times):
    """Heightens the floor so many times; returns the number of its seams."""
    return put_changed(floors, name, heightened(floors[name], times=times))


def tell_text(floors, name):
    """The text of the floor."""
    return write_floor(floors[name])


def tell_line(floors, name, way, at):
    """The crossings of a line of the floor."""
    return crossings(floors[name], (way, at))


def tell_seams(floors, name):
    """The seams of the floor."""
    return seams(floors[name])


def tell_rooms(floors, name):
    """The number of the bonds of the tree of the floor."""
    return len(room_list(floors[name]))


def tell_bond(floors, width, height, length):
    """Whether there is a bond of the size, whatever floors there are."""
    return has_bond((width, height, length))


def tell_fewest(floors, width, height, length):
    """The fewest seams of the size, whatever floors there are."""
    return fewest_seams((width, height, length))


# What the words behind the first one stand for: a floor that is there, a new name, the way of a line, or an integer.
FORMS = {
    "new": ("fresh",),
    "copy": ("floor", "fresh"),
    "drop": ("floor",),
    "turn": ("floor", "number", "number"),
    "widen": ("floor", "number"),
    "heighten": ("floor", "number"),
    "text": ("floor",),
    "line": ("floor", "way", "number"),
    "seams": ("floor",),
    "rooms": ("floor",),
    "bond": ("number", "number", "number"),
    "fewest": ("number", "number", "number"),
}

# These are kept in the script.
DEEDS = {
    "new": do_new,
    "copy": do_copy,
    "drop": do_drop,
    "turn": do_turn,
    "widen": do_widen,
    "heighten": do_heighten,
}

QUESTIONS = {
    "text": tell_text,
    "line": tell_line,
    "seams": tell_seams,
    "rooms": tell_rooms,
    "bond": tell_bond,
    "fewest": tell_fewest,
}


def has_form(kind, word):
    """Whether a word of a command can be of this kind."""
    if kind == "number":
        return is_number(word)
    return is_line_way(word) if kind == "way" else is_name(word)


def term_of(kind, word):
    """What a word of this kind stands for."""
    return int(word) if kind == "number" else word


def parsed(command):
    """The first word of a command, and the list of what its further words stand for, with a text below them last."""
    if not isinstance(command, str):
        raise InvalidCommand("this is no string")
    line, newline, text = command.partition("\n")
    first, *words = line.split(" ")
    kinds = FORMS.get(first, ())
    if len(kinds) == 0 or len(words) != len(kinds) or (first == "new") != (newline == "\n"):
        raise InvalidCommand("no command has so many words and lines")
    if not all([has_form(kind, word) for kind, word in zip(kinds, words)]):
        raise InvalidCommand("this is no name, way or number in its place")
    terms = [term_of(kind, word) for kind, word in zip(kinds, words)]
    return (first, [*terms, text] if first == "new" else terms)


class Shell:
    """Floors under names, which commands make, change and tell of."""

    def __init__(self):
        self._floors = {}
        self._script = []

    def run(self, command):
        """Does what the command says; returns its reply."""
        word, terms = parsed(command)
        for kind, term in zip(FORMS[word], terms):
            if kind == "floor" and term not in self._floors:
                raise UnknownName(term)
        for kind, term in zip(FORMS[word], terms):
            if kind == "fresh" and term in self._floors:
                raise InvalidOperation("there is a floor of this name")
        if word in QUESTIONS:
            question = QUESTIONS[word]
            return question(self._floors, *terms)
        deed = DEEDS[word]
        reply = deed(self._floors, *terms)
        self._script.append(command)
        return reply

    def __call__(self, command):
        return self.run(command)

    @property
    def names(self):
        """The ascending tuple of the names of the floors."""
        return tuple(sorted(self._floors))

    @property
    def floors(self):
        """A dict from the names, ascending, to the floors."""
        return {name: self._floors[name] for name in sorted(self._floors)}

    @property
    def script(self):
        """The tuple of the commands that made or changed floors, in order."""
        return tuple(self._script)

    @classmethod
    def replayed(cls, script):
        """The shell behind the commands of a tuple."""
        if not isinstance(script, tuple):
            raise InvalidCommand("this is no tuple of commands")
        shell = cls()
        for command in script:
            shell.run(command)
        return shell

    def __contains__(self, value):
        return isinstance(value, str) and value in self._floors

    def __len__(self):
        return len(self._floors)

    def __eq__(self, other):
        return isinstance(other, Shell) and self._floors == other._floors

    def __str__(self):
        return f"shell of {len(self._floors)} floors"
