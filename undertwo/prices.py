"""What a law costs, in dots a cell."""

from undertwo.basic import check_many, lowest
from undertwo.leastrooms import least_rooms
from undertwo.rows import made_k

MOST_ROOMS_OF_PRICE = 30


def price(k, rooms):
    """The least number of dots a cell for a law of so many rooms, a fraction."""
    made_k(k)
    check_many(rooms, 0, MOST_ROOMS_OF_PRICE)
    if rooms < 2:
        return (0, 1)
    return lowest(2, k + k // (2 * rooms - 3))


def long_price(rooms):
    """What k times the price goes to as k grows, a fraction."""
    check_many(rooms, 0, MOST_ROOMS_OF_PRICE)
    if rooms < 2:
        return (0, 1)
    return lowest(2 * rooms - 3, rooms - 1)


def code_size(rooms):
    """The number of cells of a code."""
    check_many(rooms, 0, MOST_ROOMS_OF_PRICE)
    if rooms < 2:
        return 0
    return 1 + (rooms - 2).bit_length()


def sure_from(rooms):
    """The least k for which there surely is a plan for so many rooms."""
    check_many(rooms, 0, MOST_ROOMS_OF_PRICE)
    if rooms < 2:
        return 1
    return (2 * rooms - 3) * (code_size(rooms) + 3)


def law_price(machine, k):
    """The price of the law of the machine."""
    return price(k, least_rooms(machine))
