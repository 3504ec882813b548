"""Fools: pairs of words that no two rooms behind the pasts can be the same for."""

from undertwo.basic import wrong_at
from undertwo.errors import TooMany
from undertwo.machines import MOST_LETTERS_OF_WORD, flipped, made_machine, rooms_to_end
from undertwo.rects import columns_of, sure_and_rects
from undertwo.sure import way_to

MOST_ROOMS_OF_SURE = 8


def is_pair(letters, thing):
    """Whether the thing is a pair of words of so many letters."""
    if not isinstance(thing, tuple) or len(thing) != 2:
        return False
    return all([wrong_at(word, 0, MOST_LETTERS_OF_WORD, 0, letters - 1) is None for word in thing])


def meet(some, others):
    """Whether the two tuples or lists have a room in common."""
    return any([room in others for room in some])


def fool_right(machine, thing):
    """Whether the thing is a fool of the machine."""
    letters, rooms, starts, ends, moves = made_machine(machine)
    # No fool has more pairs than the machine has rooms.
    if not isinstance(thing, tuple) or len(thing) > rooms:
        return False
    if not all([is_pair(letters, pair) for pair in thing]):
        return False
    turned = flipped(machine)
    # A word of two parts is let if some room behind the first part is one from which the second leads to an end.
    behind = [rooms_to_end(turned, past[::-1])[0] for past, future in thing]
    ahead = [rooms_to_end(machine, future)[0] for past, future in thing]
    if not all([meet(behind[at], ahead[at]) for at in range(len(thing))]):
        return False
    return not any([meet(behind[one], ahead[two]) and meet(behind[two], ahead[one])
                    for two in range(len(thing)) for one in range(two)])


def agree(columns, one, two):
    """Whether two pairs of numbers of a past and a future may stand in one fool."""
    return one[0] not in columns[two[1]] or two[0] not in columns[one[1]]


def grown(columns, pairs, many):
    """The first fool of so many of these pairs, in order, or None."""
    if many == 0:
        return ()
    for at, pair in enumerate(pairs):
        rest = [other for other in pairs[at + 1:] if agree(columns, pair, other)]
        # Pairs with the same past do not agree, so there are no more to come than pasts are left.
        if len({past for past, future in rest}) >= many - 1:
            found = grown(columns, rest, many - 1)
            if found is not None:
                return (pair, *found)
    return None


def fools(machine):
    """One fool of the law with the most pairs of certain words."""
    sure = sure_and_rects(machine)[0]
    if sure[1] > MOST_ROOMS_OF_SURE:
        raise TooMany(sure[1])
    words = columns_of(sure)
    columns = list(words)
    futures = list(words.values())
    pairs = [(past, future) for past in range(sure[1]) for future in range(len(columns)) if past in columns[future]]
    many = sure[1]
    found = grown(columns, pairs, many)
    while found is None:
        many -= 1
        found = grown(columns, pairs, many)
    return tuple([(way_to(machine, past), futures[future]) for past, future in found])
