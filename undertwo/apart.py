"""Rows that are told apart by every view."""

from undertwo.rows import made_k, made_rows
from undertwo.views import blank, views


def shared(k, rows):
    """The first two rows that share a view, with the least view that they share, or None."""
    made_k(k)
    made_rows(rows)
    seen = [views(k, row) for row in rows]
    for one in range(len(rows)):
        had = {view: True for view in seen[one]}
        for two in range(one + 1, len(rows)):
            # The views rise, so the first one in common is the least.
            for view in seen[two]:
                if view in had:
                    return (one, two, view)
    return None


def apart(k, rows):
    """Whether no two of the rows share a view."""
    return shared(k, rows) is None


def clear(k, rows):
    """Whether none of the rows has the view without dots."""
    made_k(k)
    made_rows(rows)
    return not any([blank(k, row) for row in rows])
