"""A thinnest round of each knot, told as a row."""

from undertwo.basic import is_within
from undertwo.errors import BadKnot, Wide
from undertwo.knots import knots_of, steps_of, thinnest_of, within_knot
from undertwo.lines import DOT
from undertwo.rows import MOST_GAPS, density, is_row, least_row
from undertwo.views import views_by_start


def chosen_knot(inspector, knot):
    """The tuples of cells of the knot with this index, and the steps within it."""
    tuples, steps = steps_of(inspector)
    found = knots_of(steps)
    if not is_within(knot, 0, len(found) - 1):
        raise BadKnot(0)
    return ([tuples[at] for at in found[knot]], within_knot(tuples, steps, found[knot]))


def costs_of(inner, many):
    """The steps within the knot of so many tuples, each with its cost: no round costs less than 0."""
    dots, cells = thinnest_of(inner, many)
    return [(one, two, dot * cells - dots) for one, two, dot in inner]


def heights_of(costs, many):
    """The least cost of a walk to each tuple, from anywhere in the knot."""
    heights = [0] * many
    lower = True
    while lower:
        lower = False
        for one, two, cost in costs:
            if heights[one] + cost < heights[two]:
                heights[two] = heights[one] + cost
                lower = True
    return heights


def tight_steps(costs, many):
    """For each tuple those that tight steps lead to, the one with an empty cell first."""
    heights = heights_of(costs, many)
    goals = [[] for at in range(many)]
    for one, two, cost in costs:
        if heights[two] == heights[one] + cost:
            goals[one].append(two)
    return goals


def without_blind(goals):
    """What the steps lead to, as a dict of the tuples that are left when those without a step to one that is
    left are struck out again and again."""
    left = dict(enumerate(goals))
    more = True
    while more:
        fewer = {one: [two for two in left[one] if two in left] for one in left}
        fewer = {one: fewer[one] for one in fewer if fewer[one]}
        more = len(fewer) < len(left)
        left = fewer
    return left


def round_in(left):
    """The tuples of the round that the walk from the least tuple comes to, in the order of the walk."""
    at = min(left)
    walk = []
    place = {}
    while at not in place:
        place[at] = len(walk)
        walk.append(at)
        at = left[at][0]
    return walk[place[at]:]


def gaps_between(cells):
    """The gaps from dot to dot of cells that come again and again, as a tuple."""
    dots = [at for at, cell in enumerate(cells) if cell == DOT]
    # Round the end: from the last dot the first one is as far as if it stood a round behind.
    behind = dots[1:] + [at + len(cells) for at in dots[:1]]
    return tuple([after - before for before, after in zip(dots, behind)])


def thin_round(inspector, knot):
    """The row of a thinnest round within the knot."""
    tuples, inner = chosen_knot(inspector, knot)
    many = len(tuples)
    walk = round_in(without_blind(tight_steps(costs_of(inner, many), many)))
    gaps = gaps_between([tuples[at][-1] for at in walk])
    if len(gaps) > MOST_GAPS:
        raise Wide(0)
    return least_row(gaps)


def round_right(inspector, knot, thing):
    """Whether the thing is a row of allowed words, with its views in the knot and as thin as the knot."""
    tuples, inner = chosen_knot(inspector, knot)
    if not is_row(thing):
        return False
    k, m, words = inspector
    allowed = {word: True for word in words}
    there = {cells: True for cells in tuples}
    if not all([word in allowed for word in views_by_start(k + 1, thing)]):
        return False
    if not all([view in there for view in views_by_start(k, thing)]):
        return False
    return density(thing) == thinnest_of(inner, len(tuples))
