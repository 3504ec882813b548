"""Rows of gaps, and the endless rows of cells that they tell."""

from undertwo.basic import check_many, is_within, lowest, wrong_at
from undertwo.errors import BadK, BadRow, BadRows, BadStart, NoDots

GREATEST_K = 60
GREATEST_GAP = 99
MOST_GAPS = 24
MOST_ROWS = 8
LAST_START = 10 ** 30
MOST_CELLS = 2000


def made_k(thing):
    """The thing, if it is a number of cells of a view."""
    if not is_within(thing, 1, GREATEST_K):
        raise BadK(0)
    return thing


def made_row(thing):
    """The thing, if it is a row."""
    wrong = wrong_at(thing, 0, MOST_GAPS, 1, GREATEST_GAP)
    if wrong is not None:
        raise BadRow(wrong)
    return thing


def is_row(thing):
    """Whether the thing is a row."""
    try:
        made_row(thing)
    except BadRow:
        return False
    return True


def made_rows(thing):
    """The thing, if it is a tuple of rows."""
    if not isinstance(thing, tuple) or len(thing) > MOST_ROWS:
        raise BadRows(-1)
    for at, row in enumerate(thing):
        if not is_row(row):
            raise BadRows(at)
    return thing


def round_of(row):
    """The sum of the gaps: after so many cells the row comes again."""
    return sum(made_row(row))


def mean(row):
    """The mean gap, a fraction."""
    made_row(row)
    if not row:
        raise NoDots(0)
    return lowest(sum(row), len(row))


def density(row):
    """The number of dots a cell, a fraction."""
    made_row(row)
    if not row:
        return (0, 1)
    return lowest(len(row), sum(row))


def cells_once(row):
    """The cells of the row from cell 0 on that come again and again, as a tuple."""
    if not row:
        # The dark row has no round, but any single cell of it comes again and again.
        return (0,)
    cells = []
    for gap in row:
        cells.append(1)
        cells.extend([0] * (gap - 1))
    return tuple(cells)


def cells_from(row, start, many):
    """The tuple of `many` cells of the row from the cell `start` on."""
    made_row(row)
    if not is_within(start, 0, LAST_START):
        raise BadStart(0)
    check_many(many, 0, MOST_CELLS)
    once = cells_once(row)
    return tuple([once[(start + at) % len(once)] for at in range(many)])


def turned(row):
    """The row with its gaps in the reverse order."""
    return made_row(row)[::-1]


def fewest_gaps(row):
    """The first gaps of the row that, told again and again, tell the whole row."""
    for many in range(1, len(row)):
        if len(row) % many == 0 and row[:many] * (len(row) // many) == row:
            return row[:many]
    return row


def least_row(row):
    """Of all rows that are the same as this one, the least one with the fewest gaps."""
    made_row(row)
    gaps = fewest_gaps(row)
    return min([gaps[at:] + gaps[:at] for at in range(len(gaps))], default=())


def same(one, two):
    """Whether each of the two rows becomes the other one by a shift."""
    return least_row(one) == least_row(two)
