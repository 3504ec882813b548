"""What the other modules share: numbers within bounds, rising tuples, fractions, what steps lead to."""

from math import gcd

from undertwo.errors import BadMany


def is_number(thing):
    """Whether the thing is a number; True and False are none."""
    return isinstance(thing, int) and not isinstance(thing, bool)


def is_within(thing, low, high):
    """Whether the thing is a number from low to high."""
    return is_number(thing) and low <= thing <= high


def wrong_at(thing, fewest, greatest, low, high):
    """Where the thing fails to be a tuple of so many numbers from low to high: -1 if it is no tuple of
    `fewest` to `greatest` items, otherwise the first wrong index; None if it does not fail."""
    if not isinstance(thing, tuple) or not fewest <= len(thing) <= greatest:
        return -1
    for at, item in enumerate(thing):
        if not is_within(item, low, high):
            return at
    return None


def check_many(many, low, high):
    """Refuses what is not a number from low to high."""
    if not is_within(many, low, high):
        raise BadMany(0)


def is_rising(things):
    """Whether each of the things is greater than the one before it."""
    return all([things[at - 1] < things[at] for at in range(1, len(things))])


def lowest(above, below):
    """The fraction above / below, in lowest terms."""
    common = gcd(above, below)
    return (above // common, below // common)


def reached(firsts, steps):
    """All that can be come to by steps from the first ones, these with them; the steps tell for each thing
    what it leads to."""
    met = list(firsts)
    seen = {thing: True for thing in met}
    at = 0
    while at < len(met):
        goals = steps[met[at]]
        for goal in goals:
            if goal not in seen:
                seen[goal] = True
                met.append(goal)
        at += 1
    return seen
