"""Rectangles of a law, and machines whose rooms stand for some of them."""

from undertwo.basic import is_rising, wrong_at
from undertwo.errors import BadLot, TooMany
from undertwo.machines import leads_of
from undertwo.sure import sure_of

MOST_ROOMS_OF_SURE = 12
MOST_RECTS = 12


def columns_of(sure):
    """The columns of a sure machine, each with its least word, in the order of these words."""
    leads = leads_of(sure)
    columns = [sure[3]]
    words = {sure[3]: ()}
    first = 0
    # A column's least word goes on, behind its first letter, with a column's least word; so the words of
    # one letter more come in order if the letters are taken in order, and for each of them the words.
    while first < len(columns):
        last = len(columns)
        for letter in range(sure[0]):
            for at in range(first, last):
                goal = columns[at]
                column = tuple([room for room in range(sure[1]) if leads[(room, letter)][0] in goal])
                if column not in words:
                    words[column] = (letter, *words[goal])
                    columns.append(column)
        # Each column that is not empty is a rectangle, so that there is no need to go on.
        if len(columns) > MOST_RECTS + 1:
            raise TooMany(MOST_RECTS)
        first = last
    return words


def size_first(lot):
    """By what lots are put in order."""
    return (len(lot), lot)


def meets_of(columns):
    """All intersections of one or more of the columns that are not empty, in order."""
    found = {}
    for column in columns:
        more = [tuple([room for room in other if room in column]) for other in found]
        for lot in [column, *more]:
            if lot:
                found[lot] = True
    return sorted(found, key=size_first)


def sure_and_rects(machine):
    """The sure machine and the rectangles, if neither has too many."""
    sure = sure_of(machine)
    if sure[1] > MOST_ROOMS_OF_SURE:
        raise TooMany(sure[1])
    found = meets_of(list(columns_of(sure)))
    if len(found) > MOST_RECTS:
        raise TooMany(MOST_RECTS)
    return (sure, tuple(found))


def rects(machine):
    """All rectangles, in order."""
    return sure_and_rects(machine)[1]


def goes_within(leads, letter, lot, goal):
    """Whether the letter leads from each room of the lot to some room of the goal."""
    return all([leads[(room, letter)][0] in goal for room in lot])


def machine_of(sure, chosen):
    """The machine whose rooms stand for the chosen lots of rooms of the sure machine."""
    leads = leads_of(sure)
    many = list(range(len(chosen)))
    starts = [at for at in many if 0 in chosen[at]]
    ends = [at for at in many if all([room in sure[3] for room in chosen[at]])]
    moves = [(one, letter, two) for one in many for letter in range(sure[0]) for two in many
             if goes_within(leads, letter, chosen[one], chosen[two])]
    return (sure[0], len(chosen), tuple(starts), tuple(ends), tuple(moves))


def rect_machine(machine, lot):
    """The machine whose rooms stand for the rectangles with the indexes of the lot."""
    sure, found = sure_and_rects(machine)
    if wrong_at(lot, 0, len(found), 0, len(found) - 1) is not None or not is_rising(lot):
        raise BadLot(0)
    return machine_of(sure, [found[at] for at in lot])
