"""Machines, their words and their runs."""

from undertwo.basic import is_rising, is_within, reached, wrong_at
from undertwo.errors import BadMachine, BadWord

MOST_LETTERS = 4
MOST_ROOMS = 40
MOST_LETTERS_OF_WORD = 200


def has_frame(thing):
    """Whether the thing has five items, with numbers of letters and of rooms ahead."""
    if not isinstance(thing, tuple) or len(thing) != 5:
        return False
    return is_within(thing[0], 1, MOST_LETTERS) and is_within(thing[1], 0, MOST_ROOMS)


def are_rooms(rooms, thing):
    """Whether the thing is a rising tuple of rooms."""
    return wrong_at(thing, 0, rooms, 0, rooms - 1) is None and is_rising(thing)


def is_move(letters, rooms, thing):
    """Whether the thing is a move."""
    if not isinstance(thing, tuple) or len(thing) != 3:
        return False
    before, letter, behind = thing
    return (is_within(before, 0, rooms - 1) and is_within(letter, 0, letters - 1)
            and is_within(behind, 0, rooms - 1))


def are_moves(letters, rooms, thing):
    """Whether the thing is a rising tuple of moves."""
    if not isinstance(thing, tuple):
        return False
    return all([is_move(letters, rooms, move) for move in thing]) and is_rising(thing)


def made_machine(thing):
    """The thing, if it is a machine."""
    if not has_frame(thing):
        raise BadMachine(-1)
    letters, rooms, starts, ends, moves = thing
    if not are_rooms(rooms, starts):
        raise BadMachine(0)
    if not are_rooms(rooms, ends):
        raise BadMachine(1)
    if not are_moves(letters, rooms, moves):
        raise BadMachine(2)
    return thing


def is_machine(thing):
    """Whether the thing is a machine."""
    try:
        made_machine(thing)
    except BadMachine:
        return False
    return True


def made_word(machine, thing):
    """The thing, if it is a word of the machine."""
    letters = made_machine(machine)[0]
    wrong = wrong_at(thing, 0, MOST_LETTERS_OF_WORD, 0, letters - 1)
    if wrong is not None:
        raise BadWord(wrong)
    return thing


def leads_of(machine):
    """For each room and letter, the rising list of the rooms that moves lead to."""
    letters, rooms, starts, ends, moves = machine
    leads = {(room, letter): [] for room in range(rooms) for letter in range(letters)}
    for before, letter, behind in moves:
        leads[(before, letter)].append(behind)
    return leads


def rooms_to_end(machine, word):
    """For each place in the word, the rooms from which the rest of the word leads to an end."""
    leads = leads_of(machine)
    found = [machine[3]]
    for letter in word[::-1]:
        good = {room: True for room in found[-1]}
        found.append([room for room in range(machine[1])
                      if any([behind in good for behind in leads[(room, letter)]])])
    return found[::-1]


def first_run(machine, word):
    """The least run of the word, or None."""
    made_word(machine, word)
    leads = leads_of(machine)
    good = rooms_to_end(machine, word)
    run = []
    can = machine[2]
    for at in range(len(word) + 1):
        fit = [room for room in can if room in good[at]]
        # Only a start can be missing: from a room that is good some move leads to a good one.
        if not fit:
            return None
        run.append(fit[0])
        if at < len(word):
            can = leads[(fit[0], word[at])]
    return tuple(run)


def lets(machine, word):
    """Whether the machine lets the word."""
    return first_run(machine, word) is not None


def step_lists(rooms, steps):
    """For each room the list of the rooms that the steps lead to."""
    lists = [[] for room in range(rooms)]
    for one, two in steps:
        lists[one].append(two)
    return lists


def trimmed(machine):
    """The machine with just those rooms that stand in a run of some word."""
    letters, rooms, starts, ends, moves = made_machine(machine)
    ahead = reached(starts, step_lists(rooms, [(one, two) for one, letter, two in moves]))
    back = reached(ends, step_lists(rooms, [(two, one) for one, letter, two in moves]))
    used = [room for room in range(rooms) if room in ahead and room in back]
    number = {room: at for at, room in enumerate(used)}
    kept = [(number[one], letter, number[two]) for one, letter, two in moves if one in number and two in number]
    return (letters, len(used), tuple([number[room] for room in starts if room in number]),
            tuple([number[room] for room in ends if room in number]), tuple(kept))


def flipped(machine):
    """The machine that lets just the words that this one lets backwards."""
    letters, rooms, starts, ends, moves = made_machine(machine)
    return (letters, rooms, ends, starts, tuple(sorted([(two, letter, one) for one, letter, two in moves])))
