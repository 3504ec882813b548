"""The inspector of the lines that can be painted for a machine."""

from undertwo.errors import TooMany
from undertwo.inspectors import MOST_WORDS
from undertwo.lines import EMPTY, END, FIRST_STATION
from undertwo.painter import small_trimmed
from undertwo.plans import MOST_LESS, code, parts_of, plan, shortest, with_gaps


def begun(ahead, unit, many):
    """All first `many` cells of lots of units behind these cells, each unit made less by its own choice."""
    found = {}
    left = [ahead]
    while left:
        cells = left.pop()
        if len(cells) >= many:
            found[tuple(cells[:many])] = True
        else:
            left.extend([with_gaps(cells, (unit[0] - less, *unit[1:])) for less in range(MOST_LESS + 1)])
    return list(found)


def heads_of(k, rooms, room):
    """The first k cells of the room's made stretches, and longer beginnings that have all other words in them."""
    if room == 0:
        return ([(EMPTY,) * k], [(EMPTY,) * (k + 1)])
    first, unit, last = parts_of(plan(k, rooms)[room - 1])
    ahead = with_gaps(code(rooms, room)[::-1], (first,))
    # A word that begins behind the first unit begins in a later one, and looks as if that were the first.
    return (begun(ahead, unit, k), begun(ahead, unit, len(ahead) + sum(unit) + k))


def add_words(words, more):
    """Puts more words to the words, as long as there are not too many."""
    for word in more:
        words[word] = True
    if len(words) > MOST_WORDS:
        raise TooMany(MOST_WORDS)


def plain_words(k, beginnings):
    """The words of stretches that begin so, and of those that end so."""
    found = [cells[at:at + k + 1] for cells in beginnings for at in range(len(cells) - k)]
    # Turned about, the made stretches of a room are the made stretches of the room.
    return found + [word[::-1] for word in found]


def border_words(k, heads):
    """The words in which some END signs are ahead of stretches that begin so."""
    return [(END,) * signs + head[:k + 1 - signs] for signs in range(1, k + 1) for head in heads]


def station_words(k, before, letter, behind):
    """The words with this station, behind stretches that turned about begin with `before`."""
    return [(*head[:many][::-1], FIRST_STATION + letter, *other[:k - many])
            for many in range(k + 1) for head in before for other in behind]


def inspector(machine, k):
    """The inspector of the lines that can be painted for the machine."""
    letters, rooms, starts, ends, moves = small_trimmed(machine)
    m = shortest(k, rooms)
    words = {}
    heads = []
    for room in range(rooms):
        short, long = heads_of(k, rooms, room)
        heads.append(short)
        add_words(words, plain_words(k, long))
    for room in starts:
        add_words(words, border_words(k, heads[room]))
    for room in ends:
        add_words(words, [word[::-1] for word in border_words(k, heads[room])])
    for before, letter, behind in moves:
        add_words(words, station_words(k, heads[before], letter, heads[behind]))
    return (k, m, tuple(sorted(words)))
