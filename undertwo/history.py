"""States that follow one another and can be undone."""

from undertwo.errors import NothingAgain, NothingBack


class History:
    """The state that is now, those before it, and those that were undone."""

    def __init__(self, state, most):
        self._now = state
        # How many changes can be undone at most; None if there is no bound.
        self._most = most
        self._past = []
        self._undone = []

    def now(self):
        """The state that is now."""
        return self._now

    def change(self, state):
        """Another state is from now on; what was undone is forgotten."""
        self._past.append(self._now)
        if self._most is not None and len(self._past) > self._most:
            self._past = self._past[1:]
        self._undone = []
        self._now = state

    def back(self):
        """The state before the last change that is not undone is again."""
        if not self._past:
            raise NothingBack(0)
        self._undone.append(self._now)
        self._now = self._past.pop()

    def again(self):
        """The state behind the last undone change is again."""
        if not self._undone:
            raise NothingAgain(0)
        self._past.append(self._now)
        self._now = self._undone.pop()
