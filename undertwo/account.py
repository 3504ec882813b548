"""What the rows that are told apart spend of the places in a view."""

from undertwo.apart import shared
from undertwo.errors import Blank, Shared, Thin
from undertwo.rows import made_k, made_row, made_rows
from undertwo.thick import thickness
from undertwo.views import alone, blank


def is_big(k, gap):
    """Whether the gap is greater than half of a view."""
    return 2 * gap > k


def has_middle(k, row):
    """Whether the row has two big gaps side by side, also round its end."""
    return any([is_big(k, row[at - 1]) and is_big(k, row[at]) for at in range(len(row))])


def middle_row(k, rows):
    """The least index of a row with two big gaps side by side, or None."""
    made_k(k)
    made_rows(rows)
    for at, row in enumerate(rows):
        if has_middle(k, row):
            return at
    return None


def sides(k, row):
    """The most places of a dot whose left gap alone is big, and of one whose right gap alone is."""
    made_k(k)
    made_row(row)
    from_left = 0
    from_right = 0
    for at, right in enumerate(row):
        left = row[at - 1]
        over = left + right - k
        if is_big(k, left) and not is_big(k, right):
            from_left = max(from_left, over)
        if is_big(k, right) and not is_big(k, left):
            from_right = max(from_right, over)
    return (from_left, from_right)


def check_account(k, rows):
    """Refuses rows that have no account."""
    for at, row in enumerate(rows):
        if blank(k, row):
            raise Blank(at)
    found = shared(k, rows)
    if found is not None:
        raise Shared(found[0])
    for at, row in enumerate(rows):
        if thickness(k, row) < 1:
            raise Thin(at)


def account(k, rows):
    """For each row its thickness, the number of its places, and "middle" or "sides"."""
    made_k(k)
    made_rows(rows)
    check_account(k, rows)
    told = []
    for row in rows:
        word = "middle" if has_middle(k, row) else "sides"
        told.append((thickness(k, row), len(alone(k, row)), word))
    return tuple(told)
