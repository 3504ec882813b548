"""Texts of laws and of machines."""

from undertwo.errors import BadNames, NoName, NoRoom, Order, TooMany, Twice, Unlike
from undertwo.lawwords import law_of, taken_law
from undertwo.machines import MOST_LETTERS, MOST_ROOMS, made_machine
from undertwo.words import NONE, Words, is_name, is_number_word


def made_names(thing):
    """The thing, if it is a tuple of names of letters."""
    if not isinstance(thing, tuple) or not 1 <= len(thing) <= MOST_LETTERS:
        raise BadNames(-1)
    for at, name in enumerate(thing):
        if not is_name(name) or at > 0 and name <= thing[at - 1]:
            raise BadNames(at)
    return thing


def taken_names(words):
    """Takes names of letters; returns the tuple of them."""
    names = []
    while not names or is_name(words.word()):
        place = words.place()
        name = words.take_name()
        if len(names) == MOST_LETTERS:
            raise TooMany(place)
        if names and name <= names[-1]:
            raise Order(place)
        names.append(name)
    return tuple(names)


def read_law(names, text):
    """The least sure machine of the law that the text tells."""
    made_names(names)
    return law_of(names, taken_law(Words(text, ""), names))


def taken_room(words, rooms):
    """Takes the number of one of so many rooms; returns it."""
    place = words.place()
    room = words.take_number()
    if room >= rooms:
        raise NoRoom(place)
    return room


def taken_rooms(words, rooms):
    """Takes starts or ends; returns the rising tuple of them."""
    found = []
    if words.word() == NONE:
        words.take()
        return ()
    while not found or is_number_word(words.word()):
        place = words.place()
        room = taken_room(words, rooms)
        if room in found:
            raise Twice(place)
        found.append(room)
    return tuple(sorted(found))


def taken_move(words, rooms, names):
    """Takes a move; returns it."""
    before = taken_room(words, rooms)
    place = words.place()
    name = words.take_name()
    if name not in names:
        raise NoName(place)
    return (before, names.index(name), taken_room(words, rooms))


def taken_moves(words, rooms, names):
    """Takes moves; returns the rising tuple of them."""
    if words.word() == NONE:
        words.take()
        return ()
    found = {}
    more = True
    while more:
        place = words.place()
        move = taken_move(words, rooms, names)
        if move in found:
            raise Twice(place)
        found[move] = True
        more = words.word() == ","
        if more:
            words.take()
    return tuple(sorted(found))


def taken_machine(words, names):
    """Takes the words of a machine with these names of letters; returns it."""
    words.take_just("rooms")
    place = words.place()
    rooms = words.take_number()
    if rooms > MOST_ROOMS:
        raise TooMany(place)
    words.take_just(";")
    words.take_just("starts")
    starts = taken_rooms(words, rooms)
    words.take_just(";")
    words.take_just("ends")
    ends = taken_rooms(words, rooms)
    words.take_just(";")
    return (len(names), rooms, starts, ends, taken_moves(words, rooms, names))


def read_machine(names, text):
    """The machine that the text tells."""
    made_names(names)
    words = Words(text, "")
    machine = taken_machine(words, names)
    words.finish()
    return machine


def rooms_text(rooms):
    """The text of starts or ends."""
    if not rooms:
        return NONE
    return " ".join([str(room) for room in rooms])


def moves_text(names, moves):
    """The text of moves."""
    if not moves:
        return NONE
    return ", ".join([f"{before} {names[letter]} {behind}" for before, letter, behind in moves])


def print_machine(names, machine):
    """The text of the machine."""
    made_names(names)
    letters, rooms, starts, ends, moves = made_machine(machine)
    if letters != len(names):
        raise Unlike(0)
    return f"rooms {rooms}; starts {rooms_text(starts)}; ends {rooms_text(ends)}; {moves_text(names, moves)}"
