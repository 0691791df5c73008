"""What something was and is, so that deeds can be taken back, done again, and tried."""

from bondfloors.base.values import is_whole
from bondfloors.errors import InvalidNumber, NothingToUndo


class History:
    """States, one behind the other, with a deed between each two. A history never changes: others come from it."""

    def __init__(self, states, told, past):
        self.states = states
        self.told = told
        # How many of the deeds have not been taken back.
        self.past = past
        self.done = told[:past]
        self.state = states[past]
        # What the last deed changed; without deeds, the same state.
        self.before = states[max(0, past - 1)]

    def behind(self, deed, state):
        """The history behind a new deed, which leads to the state and ends redoing."""
        return History((*self.states[:self.past + 1], state), (*self.done, deed), self.past + 1)

    def moved(self, many, most, step):
        """The history in which so many of at most some deeds are done again, or taken back if the step is -1."""
        if not is_whole(many) or many < 0:
            raise InvalidNumber(many)
        if many > most:
            raise NothingToUndo(many)
        return History(self.states, self.told, self.past + step * many)

    def undone(self, many):
        """The history in which so many deeds are taken back."""
        return self.moved(many, self.past, -1)

    def redone(self, many):
        """The history in which so many deeds are done again."""
        return self.moved(many, len(self.told) - self.past, 1)


class Mark:
    """The history to which a block goes back, and the mark of the block around it."""

    def __init__(self, history, outer):
        self.history = history
        self.outer = outer


class Trial:
    """A block behind which something that has a history is as it was when the block began."""

    def __init__(self, subject):
        self.subject = subject
        self.mark = None

    def __enter__(self):
        # One trial may serve for several blocks, also for one within another.
        self.mark = Mark(self.subject._history, self.mark)
        return self.subject

    def __exit__(self, kind, value, trace):
        subject = self.subject
        subject._history = self.mark.history
        self.mark = self.mark.outer
