"""A size that changes, with promises that stay kept."""

from bondfloors.base.values import is_whole
from bondfloors.base.words import is_name, is_size
from bondfloors.errors import InvalidNumber, InvalidOperation, InvalidSize, Refused, UnknownName
from bondfloors.house.promises import is_kept, is_promise
from bondfloors.live.history import History, Trial


class Project:
    """A size with promises. The states of its history are pairs of a size and of the dict of the promises."""

    def __init__(self, size):
        if not is_size(size):
            raise InvalidSize("this is no size")
        self._history = History(((size, {}),), (), 0)

    @property
    def size(self):
        """The size that it has now."""
        return self._history.state[0]

    @property
    def promises(self):
        """A dict from the names, ascending, to the promises."""
        promises = self._history.state[1]
        return {name: promises[name] for name in sorted(promises)}

    @property
    def deeds(self):
        """The tuple of the names of the calls that have not been taken back."""
        return self._history.done

    def __getitem__(self, name):
        if name not in self:
            raise UnknownName(name)
        return self._history.state[1][name]

    def __iter__(self):
        raise TypeError("a project cannot be iterated over")

    def promise(self, name, *terms):
        """Makes the promise that consists of the terms, under a new name."""
        if not is_name(name) or name in self or not is_promise(terms):
            raise InvalidOperation("this is no new name, or no promise")
        if not is_kept(self.size, terms):
            raise Refused(name)
        self._history = self._history.behind("promise", (self.size, {**self.promises, name: terms}))

    def forget(self, name):
        """Gives a promise up."""
        if name not in self:
            raise UnknownName(name)
        left = {other: terms for other, terms in self.promises.items() if other != name}
        self._history = self._history.behind("forget", (self.size, left))

    def _become(self, deed, size):
        """Takes another size, by a new deed, if all promises stay kept."""
        if not is_size(size):
            raise InvalidSize("this is no size")
        for name, terms in self.promises.items():
            if not is_kept(size, terms):
                raise Refused(name)
        self._history = self._history.behind(deed, (size, self.promises))

    def resize(self, size):
        """Takes another size."""
        self._become("resize", size)

    def widen(self, times):
        """Takes a width that is greater by so many lengths."""
        if not is_whole(times) or times < 0:
            raise InvalidNumber(times)
        width, height, length = self.size
        self._become("widen", (width + times * length, height, length))

    def heighten(self, times):
        """Takes a height that is greater by so many lengths."""
        if not is_whole(times) or times < 0:
            raise InvalidNumber(times)
        width, height, length = self.size
        self._become("heighten", (width, height + times * length, length))

    def undo(self, *, many=1):
        """Takes so many deeds back; returns how many are left to take back."""
        self._history = self._history.undone(many)
        return len(self.deeds)

    def redo(self, *, many=1):
        """Does so many deeds again; returns how many there are then to take back."""
        self._history = self._history.redone(many)
        return len(self.deeds)

    def trial(self):
        """A block, for `with`, behind which all is as it was when it began."""
        return Trial(self)

    def during(self, call):
        """What the call returns for this project, which is as before afterwards."""
        with self.trial() as same:
            return call(same)

    def twin(self):
        """An independent copy, also of what can be taken back and done again."""
        twin = Project(self.size)
        twin._history = self._history
        return twin

    def __contains__(self, value):
        return isinstance(value, str) and value in self._history.state[1]

    def __len__(self):
        return len(self._history.state[1])

    def __eq__(self, other):
        return isinstance(other, Project) and self.size == other.size and self.promises == other.promises

    def __str__(self):
        return f"project of {self.size[0]} by {self.size[1]} cells, {len(self.promises)} promises"
