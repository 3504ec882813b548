"""Sure machines, and two laws held against each other."""

from undertwo.basic import is_within
from undertwo.errors import BadRoom, TooMany, Unlike
from undertwo.machines import MOST_ROOMS, leads_of, made_machine, trimmed

MOST_LOTS = 200


def lots_of(machine):
    """Where each letter leads to from each lot of rooms, and whether each lot has an end in it."""
    leads = leads_of(machine)
    lots = [machine[2]]
    number = {machine[2]: 0}
    table = []
    while len(table) < len(lots):
        rooms = lots[len(table)]
        line = []
        for letter in range(machine[0]):
            lot = tuple(sorted({two for one in rooms for two in leads[(one, letter)]}))
            if lot not in number:
                if len(lots) == MOST_LOTS:
                    raise TooMany(MOST_LOTS)
                number[lot] = len(lots)
                lots.append(lot)
            line.append(number[lot])
        table.append(tuple(line))
    ended = [any([room in machine[3] for room in each]) for each in lots]
    return (table, ended)


def kinds_of(table, ended):
    """A number for each lot, the same one for lots from which the same words lead to an end."""
    kinds = [1 if end else 0 for end in ended]
    many = 0
    # Lots that no word of so many letters tells apart stay alike, until one letter more tells no more.
    while len(set(kinds)) > many:
        many = len(set(kinds))
        number = {}
        told = []
        for lot, line in enumerate(table):
            mark = (kinds[lot], tuple([kinds[behind] for behind in line]))
            told.append(number.setdefault(mark, len(number)))
        kinds = told
    return kinds


def by_meeting(table, ended, kinds):
    """The sure machine with a room for each kind of lots, numbered by meeting."""
    met = [0]
    number = {kinds[0]: 0}
    moves = []
    at = 0
    while at < len(met):
        line = table[met[at]]
        for letter, lot in enumerate(line):
            if kinds[lot] not in number:
                number[kinds[lot]] = len(met)
                met.append(lot)
            moves.append((at, letter, number[kinds[lot]]))
        at += 1
    ends = [room for room, lot in enumerate(met) if ended[lot]]
    return (len(table[0]), len(met), (0,), tuple(ends), tuple(moves))


def least_of(table, ended):
    """The sure machine with the fewest rooms for what the table leads to, if it has not too many."""
    sure = by_meeting(table, ended, kinds_of(table, ended))
    if sure[1] > MOST_ROOMS:
        raise TooMany(sure[1])
    return sure


def sure_of(machine):
    """The sure machine of the same law with the fewest rooms, numbered by meeting."""
    made_machine(machine)
    table, ended = lots_of(machine)
    return least_of(table, ended)


def way_to(machine, room):
    """The least word that leads from the start of the sure machine to this room of it."""
    sure = sure_of(machine)
    if not is_within(room, 0, sure[1] - 1):
        raise BadRoom(room)
    # The rooms are numbered in the order of their least words, so the move that met a room ends its word.
    ways = [()]
    for before, letter, behind in sure[4]:
        if behind == len(ways):
            ways.append((*ways[before], letter))
    return ways[room]


def classes(machine):
    """The number of rooms of the sure machine that stand in a run."""
    return trimmed(sure_of(machine))[1]


def check_letters(one, two):
    """Refuses what are not two machines with as many letters."""
    made_machine(one)
    made_machine(two)
    if one[0] != two[0]:
        raise Unlike(0)


def both_sure(one, two):
    """The sure machines of two machines with the same letters."""
    check_letters(one, two)
    return (sure_of(one), sure_of(two))


def pairs_met(one, two):
    """For each pair of rooms that a word leads to in two sure machines, in the order of the least such
    words, the pair and the letter ahead of it; None for the pair of the starts."""
    leads_one = leads_of(one)
    leads_two = leads_of(two)
    came = {(0, 0): None}
    met = [(0, 0)]
    at = 0
    while at < len(met):
        room, other = met[at]
        for letter in range(one[0]):
            pair = (leads_one[(room, letter)][0], leads_two[(other, letter)][0])
            if pair not in came:
                came[pair] = (met[at], letter)
                met.append(pair)
        at += 1
    return came


def word_to(came, pair):
    """The word by which the pair was met first."""
    letters = []
    while came[pair] is not None:
        pair, letter = came[pair]
        letters.append(letter)
    return tuple(letters[::-1])


def part_word(one, two):
    """The least word that just one of the two machines lets, or None."""
    first, second = both_sure(one, two)
    came = pairs_met(first, second)
    for room, other in came:
        if (room in first[3]) != (other in second[3]):
            return word_to(came, (room, other))
    return None


def alike(one, two):
    """Whether both machines have the same law."""
    return part_word(one, two) is None


def within(one, two):
    """Whether the second machine lets every word that the first one lets."""
    first, second = both_sure(one, two)
    return all([other in second[3] for room, other in pairs_met(first, second) if room in first[3]])
