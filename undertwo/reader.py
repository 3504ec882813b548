"""The kind and the place that a single view tells."""

from undertwo.apart import shared
from undertwo.errors import Shared
from undertwo.rows import made_k, made_rows
from undertwo.views import made_view, views_by_start


def find(k, rows, view):
    """The row that has the view, and the least cell at which it begins, or None."""
    made_k(k)
    made_rows(rows)
    made_view(k, view)
    both = shared(k, rows)
    if both is not None:
        raise Shared(both[0])
    for at, row in enumerate(rows):
        for start, seen in enumerate(views_by_start(k, row)):
            if seen == view:
                return (at, start)
    return None
