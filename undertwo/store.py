"""Laws that are kept under names."""

from undertwo.errors import BadName, Full, NoLaw, TooMany, Twice, Unlike
from undertwo.history import History
from undertwo.lawtexts import made_names, print_machine, taken_machine, taken_names
from undertwo.machines import made_machine
from undertwo.words import BETWEEN, NONE, Words, is_name

MOST_LAWS = 20


class Store:
    """Laws under names, each kept as a machine with the names of its letters."""

    def __init__(self):
        # Its states are dicts of the laws. No change alters one, as it may come back: each makes a new one.
        self._history = History({}, None)

    def put(self, name, names, machine):
        """Keeps the machine, with these names of its letters, under the name."""
        if not is_name(name):
            raise BadName(0)
        made_names(names)
        made_machine(machine)
        if machine[0] != len(names):
            raise Unlike(0)
        laws = self._history.now()
        if name not in laws and len(laws) == MOST_LAWS:
            raise Full(MOST_LAWS)
        self._history.change({**laws, name: (names, machine)})

    def drop(self, name):
        """Removes the name and its machine."""
        self.pair(name)
        laws = self._history.now()
        self._history.change({other: laws[other] for other in laws if other != name})

    def names(self):
        """The names that are there, ascending."""
        return tuple(sorted(self._history.now()))

    def pair(self, name):
        """The names and the machine that are kept under the name."""
        laws = self._history.now()
        # What is no text may be no key either.
        if not isinstance(name, str) or name not in laws:
            raise NoLaw(name)
        return laws[name]

    def back(self):
        """Undoes the last change that is not undone; returns the names."""
        self._history.back()
        return self.names()

    def again(self):
        """Does the last undone change again; returns the names."""
        self._history.again()
        return self.names()

    def text(self):
        """The text of all laws."""
        if not self.names():
            return NONE
        return " | ".join([law_text(name, self.pair(name)) for name in self.names()])


def law_text(name, pair):
    """The text of one law of a store."""
    names, machine = pair
    return f"{name} ({' '.join(names)}) {print_machine(names, machine)}"


def taken_bracket(words):
    """Takes the names of letters in brackets; returns the tuple of them."""
    words.take_just("(")
    names = taken_names(words)
    words.take_just(")")
    return names


def taken_laws(words):
    """Takes all words to the end of the text as laws; returns the dict of them."""
    laws = {}
    more = words.word() != NONE
    if not more:
        words.take()
    while more:
        place = words.place()
        name = words.take_name()
        if len(laws) == MOST_LAWS:
            raise TooMany(place)
        if name in laws:
            raise Twice(place)
        names = taken_bracket(words)
        laws[name] = (names, taken_machine(words, names))
        more = words.word() == BETWEEN
        if more:
            words.take()
    words.finish()
    return laws


def read_store(text):
    """A new store with the laws that the text tells."""
    store = Store()
    # To put them one by one would leave changes that can be undone.
    store._history = History(taken_laws(Words(text, "")), None)
    return store
