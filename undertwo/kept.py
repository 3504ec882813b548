"""Limits, and the law that an inspector keeps on long stretches that are thin."""

from undertwo.basic import check_many, lowest, reached, wrong_at
from undertwo.errors import BadLimit, TooMany
from undertwo.inspectors import made_inspector, steps_by
from undertwo.knots import is_less, knots, thinnest
from undertwo.lines import DOT, EMPTY, END, FIRST_STATION
from undertwo.machines import MOST_LETTERS

GREATEST_BELOW = 1000
MOST_THIN_KNOTS = 12


def made_limit(thing):
    """The thing, if it is a limit."""
    if wrong_at(thing, 2, 2, 0, GREATEST_BELOW) is not None:
        raise BadLimit(0)
    above, below = thing
    if below == 0 or above > below or lowest(above, below) != thing:
        raise BadLimit(0)
    return thing


def thin_knots(inspector, limit):
    """The knots that are thin at the limit, if they are not too many."""
    found = [knot for knot, least in zip(knots(inspector), thinnest(inspector)) if not is_less(limit, least)]
    if len(found) > MOST_THIN_KNOTS:
        raise TooMany(len(found))
    return found


def steps_to(tuples, steps, low, high):
    """Of the steps those to a cell from low to high."""
    return [[two for two in inner if low <= tuples[two][-1] <= high] for inner in steps]


def one_step(firsts, steps):
    """What a single step leads to from the first ones."""
    return [two for one in firsts for two in steps[one]]


def lots_met(lots, seen):
    """The numbers of the lots of which something has been come to."""
    return [at for at, lot in enumerate(lots) if any([one in seen for one in lot])]


def lots_ending(lots, plain, signs, end):
    """The numbers of the lots from which plain cells, and then END signs, lead to the END signs alone."""
    return [at for at, lot in enumerate(lots) if end in reached(one_step(reached(lot, plain), signs), signs)]


def kept(inspector, letters, limit):
    """The machine of the law that the inspector keeps at the limit."""
    k, m, words = made_inspector(inspector)
    check_many(letters, 1, MOST_LETTERS)
    thin = thin_knots(inspector, made_limit(limit))
    tuples, steps = steps_by(k, words)
    number = {cells: at for at, cells in enumerate(tuples)}
    lots = [[number[cells] for cells in knot] for knot in thin]
    plain = steps_to(tuples, steps, EMPTY, DOT)
    end = number.get((END,) * k)
    starts = [] if end is None else lots_met(lots, reached([end], plain))
    ends = lots_ending(lots, plain, steps_to(tuples, steps, END, END), end)
    moves = []
    for letter in range(letters):
        station = steps_to(tuples, steps, FIRST_STATION + letter, FIRST_STATION + letter)
        for at, lot in enumerate(lots):
            behind = lots_met(lots, reached(one_step(reached(lot, plain), station), plain))
            moves.extend([(at, letter, other) for other in behind])
    return (letters, len(lots), tuple(starts), tuple(ends), tuple(sorted(moves)))
