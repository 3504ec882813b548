"""Lines that are dotted so that they tell by which run of a machine their stations are let."""

from undertwo.errors import NotLet, Short, TooMany
from undertwo.lines import check_cells, line_of, made_lengths
from undertwo.machines import first_run, made_word, trimmed
from undertwo.plans import MOST_ROOMS_OF_PLAN, shortest, stretch
from undertwo.rows import made_k


def small_trimmed(machine):
    """The trimmed machine, if it has not too many rooms for a plan."""
    small = trimmed(machine)
    if small[1] > MOST_ROOMS_OF_PLAN:
        raise TooMany(small[1])
    return small


def paint(machine, k, word, lengths):
    """The line with these stations and lengths, its plain stretches dotted by the least run."""
    small = small_trimmed(machine)
    made_k(k)
    made_word(machine, word)
    made_lengths(word, lengths)
    rooms = small[1]
    # To ask for the shortest size refuses a k that is too small.
    least = shortest(k, rooms)
    run = first_run(small, word)
    if run is None:
        raise NotLet(0)
    for at, size in enumerate(lengths):
        if size < least:
            raise Short(at)
    check_cells(word, lengths)
    return line_of(word, [stretch(k, rooms, room, size) for room, size in zip(run, lengths)])


def bound(k, rooms, size):
    """The greatest number of dots that the stretch of this size has in any room."""
    # The stretch of room 0 has no dots; to ask for it refuses what is to be refused.
    dark = stretch(k, rooms, 0, size)
    return max([sum(dark), *[sum(stretch(k, rooms, room, size)) for room in range(1, rooms)]])
