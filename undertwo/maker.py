"""Rows of given thicknesses that are told apart by every view."""

from undertwo.errors import NoFit
from undertwo.rows import made_k
from undertwo.thick import left_over, made_ts


def middle_of(ts):
    """The first index with the greatest number."""
    return ts.index(max(ts))


def intervals(k, ts):
    """For each index the first and the last of the places that its row is to have."""
    made_k(k)
    made_ts(ts)
    if left_over(k, ts) < 0:
        raise NoFit(-left_over(k, ts))
    middle = middle_of(ts)
    others = sum(ts) - ts[middle]
    found = []
    used = 0
    for at, thick in enumerate(ts):
        if at == middle:
            found.append((others + 1, k - others))
        else:
            found.append((used + 1, used + thick))
            used += thick
    return tuple(found)


def thin_rows(k, ts):
    """The rows, one for each thickness."""
    spans = intervals(k, ts)
    middle = middle_of(ts)
    rows = []
    for at, (first, last) in enumerate(spans):
        # The middle ends as far from the last place as it begins from the first one: k - s is its last.
        rows.append((last,) if at == middle else (k + 1 - first, last))
    return tuple(rows)
