"""A session: rows that keep laws in a store and edit a track."""

from undertwo.errors import NoName, NoTrack, Refused
from undertwo.inspectors import first_no
from undertwo.lawtexts import print_machine
from undertwo.lawwords import law_of
from undertwo.leastrooms import least_machine
from undertwo.lines import dots_in, sizes, stations
from undertwo.linetexts import check_name, line_of_pieces, print_line
from undertwo.machines import trimmed
from undertwo.madewords import inspector
from undertwo.prices import law_price, long_price, sure_from
from undertwo.sessionwords import taken_session_row
from undertwo.store import Store
from undertwo.sure import classes
from undertwo.track import Track
from undertwo.words import NONE, Words


class Painted:
    """A track with its k, its machine and the names of its letters."""

    def __init__(self, names, machine, k, line):
        self.names_of_letters = names
        self.painted_machine = machine
        self.view_length = k
        self.path = Track(machine, k, stations(line), sizes(line))


def names_text(names):
    """The text of names, separated by blanks."""
    if not names:
        return NONE
    return " ".join(names)


def put_law(store, name, names, steps):
    """The row `law`."""
    machine = law_of(names, steps)
    store.put(name, names, machine)
    return f"rooms {machine[1]}"


def show_law(store, name):
    """The row `show`."""
    names, machine = store.pair(name)
    return print_machine(names, machine)


def drop_law(store, name):
    """The row `drop`."""
    store.drop(name)
    return names_text(store.names())


def back_in_store(store):
    """The row `back`."""
    return names_text(store.back())


def again_in_store(store):
    """The row `again`."""
    return names_text(store.again())


def tell_least(store, name):
    """The row `least`."""
    names, machine = store.pair(name)
    rooms = least_machine(machine)[1]
    above, below = long_price(rooms)
    return f"rooms {rooms} sure {classes(machine)} price {above} {below} at {sure_from(rooms)}"


def tell_price(store, name, k):
    """The row `price`."""
    names, machine = store.pair(name)
    above, below = law_price(machine, k)
    return f"{above} {below}"


def painted_for(store, name, k, pieces):
    """The track of the row `paint`."""
    names, machine = store.pair(name)
    for piece in pieces:
        check_name(names, piece)
    return Painted(names, trimmed(least_machine(machine)), k, line_of_pieces(names, pieces))


def tell_line(painted):
    """The row `line`."""
    return print_line(painted.names_of_letters, painted.path.line())


def put_station(painted, at, name, left):
    """The row `put`."""
    names = painted.names_of_letters
    if name not in names:
        raise NoName(0)
    return f"repainted {painted.path.put(at, names.index(name), left)}"


def cut_station(painted, at):
    """The row `cut`."""
    return f"repainted {painted.path.drop(at)}"


def size_stretch(painted, at, size):
    """The row `size`."""
    return f"repainted {painted.path.resize(at, size)}"


def word_text(painted, word):
    """The names of the letters of the word."""
    return names_text([painted.names_of_letters[letter] for letter in word])


def undo_edit(painted):
    """The row `undo`."""
    return word_text(painted, painted.path.back())


def redo_edit(painted):
    """The row `redo`."""
    return word_text(painted, painted.path.again())


def tell_seen(painted, place):
    """The row `seen`."""
    return f"room {painted.path.seen(place)}"


def tell_wiped(painted, place):
    """The row `wipe`."""
    line = painted.path.wiped(place)
    no = first_no(inspector(painted.painted_machine, painted.view_length), line)
    if no is None:
        return "passes"
    return f"no {no}"


OF_STORE = {"law": put_law, "show": show_law, "drop": drop_law, "back": back_in_store, "again": again_in_store,
            "least": tell_least, "price": tell_price}
OF_TRACK = {"line": tell_line, "put": put_station, "cut": cut_station, "size": size_stretch, "undo": undo_edit,
            "redo": redo_edit, "seen": tell_seen, "wipe": tell_wiped}


class Session:
    """A store of laws and a painted track, reached by rows alone."""

    def __init__(self):
        self._store = Store()
        self._painted = None

    def row(self, text):
        """Does one row; returns its reply."""
        try:
            kind, told = taken_session_row(Words(text, ""))
            return self._reply(kind, told)
        except Refused as error:
            return f"refused: {error.kind} {error.what}"

    def _reply(self, kind, told):
        """Does a row of this kind with what its parts tell; returns its reply."""
        if kind in OF_STORE:
            action = OF_STORE[kind]
            return action(self._store, *told)
        if kind == "paint":
            self._painted = painted_for(self._store, *told)
            return f"dots {sum(dots_in(self._painted.path.line()))}"
        if self._painted is None:
            raise NoTrack(0)
        action = OF_TRACK[kind]
        return action(self._painted, *told)
