"""A floor that changes."""

from bondfloors.among.turns import turned
from bondfloors.base.floors import Floor
from bondfloors.errors import InvalidFloor
from bondfloors.grow.steps import heightened, widened
from bondfloors.lines.crossings import seams
from bondfloors.live.history import History, Trial


def without(lines, others):
    """The tuple of the lines that are not among the others."""
    return tuple([line for line in lines if line not in others])


class LiveFloor:
    """A floor that changes. The states of its history are pairs of a floor and of its seams."""

    def __init__(self, floor):
        if not isinstance(floor, Floor):
            raise InvalidFloor("this is no floor")
        self._history = History(((floor, seams(floor)),), (), 0)

    @property
    def floor(self):
        """The floor that it is now."""
        return self._history.state[0]

    @property
    def seams(self):
        """The tuple of the seams that it has now."""
        return self._history.state[1]

    @property
    def deeds(self):
        """The tuple of the deeds that have not been taken back."""
        return self._history.done

    def _become(self, deed, floor):
        """Makes it the floor behind a new deed; returns the number of its seams."""
        found = seams(floor)
        self._history = self._history.behind(deed, (floor, found))
        return len(found)

    def turn(self, x, y):
        """Turns the turning at the pair (x, y); returns the number of seams."""
        return self._become(("turn", x, y), turned(self.floor, x, y))

    def widen(self):
        """Widens the floor once; returns the number of seams."""
        return self._become(("widen",), widened(self.floor))

    def heighten(self):
        """Heightens the floor once; returns the number of seams."""
        return self._become(("heighten",), heightened(self.floor))

    def exchange(self):
        """Exchanges rows and columns; returns the number of seams."""
        return self._become(("exchange",), self.floor.exchanged())

    def undo(self, *, many=1):
        """Takes so many deeds back; returns how many are left to take back."""
        self._history = self._history.undone(many)
        return len(self.deeds)

    def redo(self, *, many=1):
        """Does so many deeds again; returns how many there are then to take back."""
        self._history = self._history.redone(many)
        return len(self.deeds)

    def won(self):
        """The ascending tuple of the lines that are seams since the last deed."""
        return without(self.seams, self._history.before[1])

    def lost(self):
        """The ascending tuple of the lines that are no seams since the last deed."""
        return without(self._history.before[1], self.seams)

    def trial(self):
        """A block, for `with`, behind which all is as it was when it began."""
        return Trial(self)

    def during(self, call):
        """What the call returns for this live floor, which is as before afterwards."""
        with self.trial() as same:
            return call(same)

    def twin(self):
        """An independent copy, also of what can be taken back and done again."""
        twin = LiveFloor(self.floor)
        twin._history = self._history
        return twin

    def __len__(self):
        return len(self.deeds)

    def __eq__(self, other):
        return isinstance(other, LiveFloor) and self.floor == other.floor

    def __str__(self):
        return f"live floor of {self.floor.width} by {self.floor.height} cells, {len(self.seams)} seams"
