"""Painted lines under edits."""

from undertwo.basic import is_within
from undertwo.errors import BadAt, BadLetter, BadPlace, BadSize
from undertwo.history import History
from undertwo.lines import DOT, EMPTY, GREATEST_LENGTH, stretches_of
from undertwo.machines import first_run, trimmed
from undertwo.painter import paint
from undertwo.seen import rooms_of_views

MOST_UNDONE = 50


def repainted(before, after):
    """How many stretches of the line `after` are not as the stretch of the same number of the line before."""
    old = stretches_of(before)
    new = stretches_of(after)
    return len([at for at, cells in enumerate(new) if at >= len(old) or cells != old[at]])


class Track:
    """A painted line under edits."""

    def __init__(self, machine, k, word, lengths):
        # Its states are what was painted: a word, lengths, and the line that was painted for them.
        self._history = History((word, lengths, paint(machine, k, word, lengths)), MOST_UNDONE)
        self._machine = machine
        self._k = k
        # The rooms of all views, when they have been asked for; no edit changes them.
        self._views = None

    def line(self):
        """The painted line."""
        return self._history.now()[2]

    def word(self):
        """The word of the line."""
        return self._history.now()[0]

    def lengths(self):
        """The lengths of the line."""
        return self._history.now()[1]

    def rooms(self):
        """The rooms of the stretches of the line."""
        return first_run(trimmed(self._machine), self.word())

    def put(self, at, letter, left):
        """Makes a cell of a stretch a station; returns how many stretches are repainted."""
        self._check_stretch(at)
        if not is_within(letter, 0, self._machine[0] - 1):
            raise BadLetter(letter)
        word = self.word()
        lengths = self.lengths()
        if not is_within(left, 0, lengths[at] - 1):
            raise BadSize(0)
        parts = (left, lengths[at] - 1 - left)
        return self._granted((*word[:at], letter, *word[at:]), (*lengths[:at], *parts, *lengths[at + 1:]))

    def drop(self, at):
        """Makes a station a plain cell; returns how many stretches are repainted."""
        word = self.word()
        lengths = self.lengths()
        if not is_within(at, 0, len(word) - 1):
            raise BadAt(at)
        whole = lengths[at] + 1 + lengths[at + 1]
        return self._granted((*word[:at], *word[at + 1:]), (*lengths[:at], whole, *lengths[at + 2:]))

    def resize(self, at, size):
        """Gives a stretch another size; returns how many stretches are repainted."""
        self._check_stretch(at)
        if not is_within(size, 0, GREATEST_LENGTH):
            raise BadSize(0)
        lengths = self.lengths()
        return self._granted(self.word(), (*lengths[:at], size, *lengths[at + 1:]))

    def back(self):
        """Undoes the last edit that is not undone; returns the word."""
        self._history.back()
        return self.word()

    def again(self):
        """Does the last undone edit once more; returns the word."""
        self._history.again()
        return self.word()

    def wiped(self, place):
        """The line without the dot at this place."""
        line = self.line()
        if not is_within(place, 0, len(line) - 1) or line[place] != DOT:
            raise BadPlace(place)
        return (*line[:place], EMPTY, *line[place + 1:])

    def seen(self, place):
        """The room that the k cells from this place on tell."""
        if not is_within(place, 0, len(self.line()) - 1):
            raise BadPlace(place)
        view = self.line()[place:place + self._k]
        if len(view) < self._k or max(view) > DOT:
            raise BadPlace(place)
        if self._views is None:
            self._views = rooms_of_views(self._k, trimmed(self._machine)[1])
        return self._views.get(view)

    def _check_stretch(self, at):
        """Refuses what is not the number of a stretch."""
        if not is_within(at, 0, len(self.lengths()) - 1):
            raise BadAt(at)

    def _granted(self, word, lengths):
        """Paints the line anew; returns how many stretches are repainted."""
        before = self.line()
        line = paint(self._machine, self._k, word, lengths)
        self._history.change((word, lengths, line))
        return repainted(before, line)
