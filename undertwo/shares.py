"""The cheapest rows for kinds with unlike shares of the length."""

from math import lcm

from undertwo.basic import lowest, wrong_at
from undertwo.errors import BadK, BadWeights, NoRoom
from undertwo.rows import made_k
from undertwo.thick import left_over

GREATEST_K_OF_SHARES = 24
MOST_WEIGHTS = 5
GREATEST_WEIGHT = 1000


def check_weights(weights):
    """Refuses what is not a tuple of weights."""
    wrong = wrong_at(weights, 1, MOST_WEIGHTS, 0, GREATEST_WEIGHT)
    if wrong is not None:
        raise BadWeights(wrong)


def all_that_fit(k, many):
    """In order, all tuples of `many` thicknesses that fit."""
    found = [()]
    for _ in range(many):
        # One thickness more leaves less over, so what does not fit now never will.
        longer = [(*ts, thick) for ts in found for thick in range(1, k + 1)]
        found = [ts for ts in longer if left_over(k, ts) >= 0]
    return found


def common_multiple(k):
    """A number that k + t divides, for each thickness t up to k."""
    common = 1
    for total in range(k + 1, 2 * k + 1):
        common = lcm(common, total)
    return common


def cheapest(k, weights):
    """The least cost, the index of the row without dots, and the thicknesses."""
    made_k(k)
    if k > GREATEST_K_OF_SHARES:
        raise BadK(0)
    check_weights(weights)
    if len(weights) - 1 > (k + 1) // 2:
        raise NoRoom(0)
    choices = all_that_fit(k, len(weights) - 1)
    # Costs are counted in parts of one over `common`, so that whole numbers are compared.
    common = common_multiple(k)
    least = None
    for dark in range(len(weights)):
        others = weights[:dark] + weights[dark + 1:]
        for ts in choices:
            cost = sum([weight * 2 * common // (k + thick) for weight, thick in zip(others, ts)])
            # The choices come in order, so of those that cost the same the first one stays.
            if least is None or cost < least[0]:
                least = (cost, dark, ts[:dark] + (0,) + ts[dark:])
    cost, dark, ts = least
    return (lowest(cost, common), dark, ts)
