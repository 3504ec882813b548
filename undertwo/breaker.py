"""Lines and words by which an inspector is shown not to keep a law."""

from undertwo.best import MOST_WORK
from undertwo.errors import TooLong, TooMany
from undertwo.inspectors import made_inspector, steps_by
from undertwo.kept import kept, made_limit
from undertwo.knots import is_less, steps_of, thinnest
from undertwo.lines import ALL_LETTERS, DOT, END, FIRST_STATION, MOST_CELLS_OF_LINE
from undertwo.machines import lets, made_machine, made_word
from undertwo.sure import part_word


def after_cell(m, word, state, before, cell):
    """What (stations, plain cells behind the last one, counted to m) becomes by one more cell behind `before`,
    or None if the cell can't stand there."""
    placed, size = state
    closed = before == END and size == m
    if cell == END:
        return state if size == m and placed == len(word) else None
    if closed:
        return None
    if cell <= DOT:
        return (placed, min(m, size + 1))
    if size == m and placed < len(word) and cell == FIRST_STATION + word[placed]:
        return (placed + 1, 0)
    return None


def ways_of(tuples, steps, m, word, end):
    """How each state is met by the least cells: the state before it. The search ends with the END signs behind
    a line of the stations of the word; a state is a tuple's number and what `after_cell` tells."""
    first = (end, (0, 0))
    goal = (end, (len(word), m))
    came = {first: None}
    met = [first]
    at = 0
    # States are met in the order of the least cells that lead to them, so the first way to each is the least.
    while at < len(met) and goal not in came:
        one, state = met[at]
        for two in steps[one]:
            later = after_cell(m, word, state, tuples[one][-1], tuples[two][-1])
            if later is not None and (two, later) not in came:
                came[(two, later)] = met[at]
                met.append((two, later))
        at += 1
    return came


def cells_to(tuples, came, goal):
    """The cells stepped to on the way to the goal."""
    cells = []
    while came[goal] is not None:
        cells.append(tuples[goal[0]][-1])
        goal = came[goal]
    return cells[::-1]


def find_line(inspector, word):
    """The first line with these stations that passes and has long enough stretches, or None."""
    k, m, words = made_inspector(inspector)
    made_word(ALL_LETTERS, word)
    tuples, steps = steps_by(k, words)
    if m * len(tuples) * (len(word) + 1) > MOST_WORK:
        raise TooMany(MOST_WORK)
    if (END,) * k not in tuples:
        return None
    end = tuples.index((END,) * k)
    came = ways_of(tuples, steps, m, word, end)
    goal = (end, (len(word), m))
    if goal not in came:
        return None
    cells = cells_to(tuples, came, goal)[:-k]
    if len(cells) > MOST_CELLS_OF_LINE:
        raise TooLong(len(cells))
    return tuple(cells)


def next_above(limit, fractions):
    """The least of the fractions above the limit, (1, 1) if there is none."""
    least = (1, 1)
    for fraction in fractions:
        if is_less(limit, fraction) and is_less(fraction, least):
            least = fraction
    return least


def broken(inspector, machine, limit):
    """What shows that the inspector does not keep the law of the machine at the limit; None if it keeps it."""
    made_inspector(inspector)
    letters = made_machine(machine)[0]
    word = part_word(kept(inspector, letters, made_limit(limit)), machine)
    if word is None:
        return None
    # Sure machines of 40 rooms each are told apart by fewer than 80 letters, so `lets` takes the word.
    if not lets(machine, word):
        return ("passes", word, find_line(inspector, word))
    tuples, steps = steps_of(inspector)
    return ("thick", word, next_above(limit, thinnest(inspector)), len(tuples))
