"""The least sure machines of laws that are made of other laws."""

from undertwo.errors import TooMany
from undertwo.machines import leads_of, made_machine
from undertwo.sure import MOST_LOTS, both_sure, check_letters, least_of, lots_of, pairs_met, sure_of

IN_EITHER = ((True, True), (True, False), (False, True))
IN_BOTH = ((True, True),)
IN_FIRST_ALONE = ((True, False),)


def joined(one, two, wanted):
    """The least sure machine of the words for which what the two machines say stands in `wanted`."""
    first, second = both_sure(one, two)
    pairs = list(pairs_met(first, second))
    if len(pairs) > MOST_LOTS:
        raise TooMany(MOST_LOTS)
    number = {pair: at for at, pair in enumerate(pairs)}
    leads_one = leads_of(first)
    leads_two = leads_of(second)
    table = [[number[(leads_one[(room, letter)][0], leads_two[(other, letter)][0])] for letter in range(first[0])]
             for room, other in pairs]
    return least_of(table, [(room in first[3], other in second[3]) in wanted for room, other in pairs])


def either(one, two):
    """The words that at least one of both lets."""
    return joined(one, two, IN_EITHER)


def both(one, two):
    """The words that both let."""
    return joined(one, two, IN_BOTH)


def butnot(one, two):
    """The words that the first one lets and the second one doesn't."""
    return joined(one, two, IN_FIRST_ALONE)


def lets_empty_word(machine):
    """Whether the machine lets the empty word."""
    return any([room in machine[3] for room in machine[2]])


def moved(machine, first):
    """The starts, ends and moves of the machine, its rooms numbered from `first` on."""
    letters, rooms, starts, ends, moves = machine
    return (tuple([room + first for room in starts]), tuple([room + first for room in ends]),
            tuple([(room + first, letter, after + first) for room, letter, after in moves]))


def bridges(moves, ends, starts):
    """For each move that leads to one of the ends a move from the same room to each of the starts."""
    return tuple([(room, letter, start) for room, letter, after in moves if after in ends for start in starts])


def least_whole(letters, rooms, starts, ends, moves):
    """The least sure machine of a machine that may have too many rooms to be handed out."""
    table, ended = lots_of((letters, rooms, starts, ends, moves))
    return least_of(table, ended)


def behind(one, two):
    """The words that the first one lets, each followed by a word that the second one lets."""
    check_letters(one, two)
    letters, rooms, starts, ends, moves = one
    more_starts, more_ends, more_moves = moved(two, rooms)
    all_starts = starts + more_starts if lets_empty_word(one) else starts
    all_ends = ends + more_ends if lets_empty_word(two) else more_ends
    return least_whole(letters, rooms + two[1], all_starts, all_ends,
                       moves + more_moves + bridges(moves, ends, more_starts))


def repeated(one):
    """Any number of words that the machine lets, one behind another."""
    letters, rooms, starts, ends, moves = made_machine(one)
    return least_whole(letters, rooms + 1, (*starts, rooms), (*ends, rooms), moves + bridges(moves, ends, starts))


def opposite(one):
    """The words that the machine doesn't let."""
    letters, rooms, starts, ends, moves = sure_of(one)
    return (letters, rooms, starts, tuple([room for room in range(rooms) if room not in ends]), moves)
