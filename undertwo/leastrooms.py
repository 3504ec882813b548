"""The machine with the fewest rooms for a law."""

from itertools import combinations

from undertwo.machines import leads_of
from undertwo.rects import machine_of, sure_and_rects


def lets_all(sure, whole, lot):
    """Whether the machine of these rectangles lets every word that the sure machine lets; `whole` is
    the machine of all rectangles."""
    leads = leads_of(sure)
    more = leads_of(whole)
    first = (0, tuple([rect for rect in lot if rect in whole[2]]))
    met = [first]
    seen = {first: True}
    at = 0
    while at < len(met):
        room, chosen = met[at]
        if room in sure[3] and not any([rect in whole[3] for rect in chosen]):
            return False
        for letter in range(sure[0]):
            after = sorted({two for one in chosen for two in more[(one, letter)] if two in lot})
            pair = (leads[(room, letter)][0], tuple(after))
            if pair not in seen:
                seen[pair] = True
                met.append(pair)
        at += 1
    return True


def first_lot(sure, found):
    """The first lot of the rectangles, in order, whose machine has the law of the sure machine."""
    whole = machine_of(sure, found)
    lots = [lot for many in range(len(found) + 1) for lot in combinations(range(len(found)), many)]
    at = 0
    # A machine of rectangles lets no word too many, so the law is the same if it lets all words of it;
    # that of all rectangles does, so there is always a lot that will do.
    while not lets_all(sure, whole, lots[at]):
        at += 1
    return lots[at]


def least_lot(machine):
    """The first lot, in order, whose machine of rectangles has the same law as the machine."""
    sure, found = sure_and_rects(machine)
    return first_lot(sure, found)


def least_machine(machine):
    """The machine of rectangles of the least lot."""
    sure, found = sure_and_rects(machine)
    return machine_of(sure, [found[at] for at in first_lot(sure, found)])


def least_rooms(machine):
    """The least number of rooms that a machine with the same law can have."""
    return len(least_lot(machine))
