"""Thicknesses of rows, and which of them fit."""

from undertwo.basic import check_many, lowest, wrong_at
from undertwo.errors import BadTs, NoDots
from undertwo.rows import made_k, made_row

GREATEST_THICKNESS = 60
MOST_THICKNESSES = 8
MOST_KINDS = 30
MOST_KINDS_OF_EDGE = 4


def thickness(k, row):
    """Twice the mean gap of the row, rounded up to a whole number, less k."""
    made_k(k)
    made_row(row)
    if not row:
        raise NoDots(0)
    # Division rounds down; of the negative it so rounds up.
    return -(-2 * sum(row) // len(row)) - k


def made_ts(thing):
    """The thing, if it is a tuple of thicknesses."""
    wrong = wrong_at(thing, 1, MOST_THICKNESSES, 1, GREATEST_THICKNESS)
    if wrong is not None:
        raise BadTs(wrong)
    return thing


def left_over(k, ts):
    """k, plus the greatest of the thicknesses, less twice their sum; nothing is checked."""
    return k + max(ts) - 2 * sum(ts)


def spare(k, ts):
    """k, plus the greatest of the thicknesses, less twice their sum."""
    made_k(k)
    made_ts(ts)
    return left_over(k, ts)


def fits(k, ts):
    """Whether there are rows of these thicknesses that are told apart by every view."""
    return spare(k, ts) >= 0


def most(k, many):
    """The greatest number that fits, if each of `many` rows has it as its thickness."""
    made_k(k)
    check_many(many, 1, MOST_KINDS)
    return k // (2 * many - 1)


def least_density(k, many):
    """The least density that the densest of `many` rows can have, or None."""
    thick = most(k, many)
    if thick == 0:
        return None
    return lowest(2, k + thick)


def falling(many, top, total):
    """In order, all tuples of `many` numbers from 1 to top with this sum, none above the one before it."""
    if many == 0:
        return [()] if total == 0 else []
    found = []
    for first in range(1, min(top, total) + 1):
        found.extend([(first, *rest) for rest in falling(many - 1, first, total - first)])
    return found


def edge(k, many):
    """In order, all falling tuples of thicknesses that fit, but no more if one number grows by one."""
    made_k(k)
    check_many(many, 1, MOST_KINDS_OF_EDGE)
    found = []
    # The greatest number counts once and the others twice, and a greatest one that grows takes
    # away one: so nothing may grow just if nothing is left over, k = first + 2 * (the others).
    for first in range(1, k + 1):
        if (k - first) % 2 == 0:
            found.extend([(first, *rest) for rest in falling(many - 1, first, (k - first) // 2)])
    return tuple(found)
