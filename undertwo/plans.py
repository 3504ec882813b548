"""How the plain stretches of each room are dotted."""

from undertwo.basic import check_many, is_within
from undertwo.errors import BadRoom, BadSize, TooThin
from undertwo.maker import thin_rows
from undertwo.prices import code_size, sure_from
from undertwo.rows import made_k

MOST_ROOMS_OF_PLAN = 5
LONGEST_STRETCH = 5000
MOST_LESS = 3


def plan(k, rooms):
    """What the rows of the rooms from 1 on are, room by room."""
    made_k(k)
    check_many(rooms, 0, MOST_ROOMS_OF_PLAN)
    if k < sure_from(rooms):
        raise TooThin(sure_from(rooms))
    if rooms < 2:
        return ()
    middle, *others = thin_rows(k, (k // (2 * rooms - 3),) * (rooms - 1))
    gap = middle[0]
    return (("middle", gap - code_size(rooms) - 2, gap), *[("side", row[1], row[0]) for row in others])


def code(rooms, room):
    """The cells that tell the room at the ends of its stretches."""
    check_many(rooms, 2, MOST_ROOMS_OF_PLAN)
    if not is_within(room, 1, rooms - 1):
        raise BadRoom(room)
    cells = [1]
    left = room - 1
    while len(cells) < code_size(rooms):
        cells.append(left % 2)
        left = left // 2
    return tuple(cells)


def parts_of(entry):
    """The gap ahead of the units, the gaps of a unit and the gaps behind the units."""
    if entry[0] == "middle":
        return (entry[1], (entry[2],), (entry[1],))
    return (entry[1], (entry[2], entry[1]), ())


def shortest_of(entry, code_cells):
    """From which size on the room of this entry surely has a stretch of each size."""
    first, unit, last = parts_of(entry)
    length = sum(unit)
    units = max(1, -((4 - length) // MOST_LESS))
    return 2 * code_cells - 1 + first + sum(last) + units * (length - MOST_LESS)


def shortest(k, rooms):
    """From which size on each room has a stretch of each size."""
    entries = plan(k, rooms)
    return max([3 * k, *[shortest_of(entry, code_size(rooms)) for entry in entries]])


def gaps_of(entry, total):
    """The gaps of the stretch in which they have this sum."""
    first, unit, last = parts_of(entry)
    wanted = total - first - sum(last)
    units = max(1, -(-wanted // sum(unit)))
    less = units * sum(unit) - wanted
    gaps = [first]
    for _ in range(units):
        taken = min(MOST_LESS, less)
        less -= taken
        gaps.extend([unit[0] - taken, *unit[1:]])
    gaps.extend(last)
    return gaps


def with_gaps(cells, gaps):
    """The cells, of which the last one is a dot, and the gaps behind them up to the last one's dot."""
    dotted = list(cells)
    for gap in gaps:
        dotted.extend([0] * (gap - 1))
        dotted.append(1)
    return dotted


def stretch(k, rooms, room, size):
    """The cells of the stretch of this size in this room."""
    entries = plan(k, rooms)
    if not is_within(room, 0, max(0, rooms - 1)):
        raise BadRoom(room)
    if not is_within(size, shortest(k, rooms), LONGEST_STRETCH):
        raise BadSize(shortest(k, rooms))
    if room == 0:
        return (0,) * size
    own = code(rooms, room)
    gaps = gaps_of(entries[room - 1], size - 2 * len(own) + 1)
    return (*with_gaps(own[::-1], gaps), *own[1:])
