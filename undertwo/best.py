"""The lines of given lengths that pass an inspector with the fewest dots."""

from undertwo.errors import Short, TooLong, TooMany
from undertwo.inspectors import made_inspector, steps_by
from undertwo.lines import DOT, EMPTY, END, FIRST_STATION, made_lengths

MOST_CELLS_OF_BEST = 1000
MOST_WORK = 200000


def check_asked(m, word, lengths):
    """Refuses lengths that are too short for the inspector, or make a line of too many cells."""
    for at, size in enumerate(lengths):
        if size < m:
            raise Short(at)
    cells = len(word) + sum(lengths)
    if cells > MOST_CELLS_OF_BEST:
        raise TooLong(cells)


def choices_of(k, word, lengths):
    """For each cell of the line, and for the END signs behind it, the cells that may stand there."""
    found = [(EMPTY, DOT)] * lengths[0]
    for letter, size in zip(word, lengths[1:]):
        found.append((FIRST_STATION + letter,))
        found.extend([(EMPTY, DOT)] * size)
    return found + [(END,)] * k


def fewest_from(tuples, steps, choice, fewest):
    """For each tuple from which a cell of the choice leads on, the fewest dots from it on and the first tuple
    by which they are met; `fewest` tells this one cell later."""
    found = {}
    for one, inner in enumerate(steps):
        # The steps rise with the cell that is stepped to, so the least pair has the least cell.
        ways = [(fewest[two][0] + (1 if tuples[two][-1] == DOT else 0), two) for two in inner
                if tuples[two][-1] in choice and two in fewest]
        if ways:
            found[one] = min(ways)
    return found


def fewest_by_cell(tuples, steps, choices, end):
    """`fewest_from` for each of the choices, in their order, when the tuple `end` is to be come to."""
    layers = []
    fewest = {end: (0, end)}
    for choice in choices[::-1]:
        fewest = fewest_from(tuples, steps, choice, fewest)
        layers.append(fewest)
    return layers[::-1]


def best_line(inspector, word, lengths):
    """The least of the lines with these stations and lengths that pass with the fewest dots, or None."""
    k, m, words = made_inspector(inspector)
    made_lengths(word, lengths)
    check_asked(m, word, lengths)
    tuples, steps = steps_by(k, words)
    if (len(word) + sum(lengths)) * len(tuples) > MOST_WORK:
        raise TooMany(MOST_WORK)
    if (END,) * k not in tuples:
        return None
    at = tuples.index((END,) * k)
    layers = fewest_by_cell(tuples, steps, choices_of(k, word, lengths), at)
    if at not in layers[0]:
        return None
    cells = []
    for layer in layers:
        at = layer[at][1]
        cells.append(tuples[at][-1])
    return tuple(cells[:-k])
