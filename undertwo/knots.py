"""Knots of an inspector's steps, and the fewest dots that they can be gone round with."""

from undertwo.basic import lowest, reached
from undertwo.errors import TooMany
from undertwo.inspectors import made_inspector, steps_by
from undertwo.lines import DOT

MOST_IN_STEPS = 1000


def steps_of(inspector):
    """The rising list of the tuples of cells in steps, and for each the list of the indexes of those that
    it steps to."""
    k, m, words = made_inspector(inspector)
    tuples, steps = steps_by(k, [word for word in words if max(word) <= DOT])
    if len(tuples) > MOST_IN_STEPS:
        raise TooMany(MOST_IN_STEPS)
    return (tuples, steps)


def turned_steps(steps):
    """The steps, each one from where it leads to, to where it comes from."""
    back = [[] for inner in steps]
    for one, inner in enumerate(steps):
        for two in inner:
            back[two].append(one)
    return back


def knots_of(steps):
    """The rising lists of the indexes of each knot, in the order of their least ones."""
    back = turned_steps(steps)
    found = []
    done = {}
    for first in range(len(steps)):
        if first not in done:
            behind = reached([first], back)
            knot = sorted([at for at in reached([first], steps) if at in behind])
            done.update({at: True for at in knot})
            if len(knot) > 1 or first in steps[first]:
                found.append(knot)
    return found


def knots(inspector):
    """All knots, in the order of their least tuples."""
    tuples, steps = steps_of(inspector)
    return tuple([tuple([tuples[at] for at in knot]) for knot in knots_of(steps)])


def within_knot(tuples, steps, knot):
    """The steps within the knot: the places in the knot of both tuples, and the cell stepped to."""
    place = {at: here for here, at in enumerate(knot)}
    return [(place[one], place[two], tuples[two][-1]) for one in knot for two in steps[one] if two in place]


def one_more(dots, inner):
    """The fewest dots of walks to each tuple that are one step longer than those told; None for no walk."""
    more = [None] * len(dots)
    for one, two, dot in inner:
        if dots[one] is not None and (more[two] is None or dots[one] + dot < more[two]):
            more[two] = dots[one] + dot
    return more


def is_less(one, two):
    """Whether the first fraction is less than the second one; both need not be in lowest terms."""
    return one[0] * two[1] < two[0] * one[1]


def steepest(walks, at):
    """How many dots a step the longest of the walks to this tuple has more than a shorter one, at most."""
    last = len(walks) - 1
    greatest = None
    for many in range(last):
        if walks[many][at] is not None:
            share = (walks[last][at] - walks[many][at], last - many)
            if greatest is None or is_less(greatest, share):
                greatest = share
    return greatest


def thinnest_of(inner, many):
    """The least fraction of dots a step that a round has, by the steps within a knot of so many tuples."""
    walks = [[0] + [None] * (many - 1)]
    while len(walks) <= many:
        walks.append(one_more(walks[-1], inner))
    # Karp's theorem: with as many steps as there are tuples, the least of these shares is the least of a round.
    least = None
    for at in range(many):
        if walks[-1][at] is not None:
            share = steepest(walks, at)
            if least is None or is_less(share, least):
                least = share
    return lowest(least[0], least[1])


def thinnest(inspector):
    """For each knot the least fraction of dots a step that a round within it has."""
    tuples, steps = steps_of(inspector)
    return tuple([thinnest_of(within_knot(tuples, steps, knot), len(knot)) for knot in knots_of(steps)])
