"""Views of a row, and the places at which a dot is alone in them."""

from undertwo.basic import wrong_at
from undertwo.errors import BadView
from undertwo.rows import cells_once, made_k, made_row


def made_view(k, thing):
    """The thing, if it is a view of k cells."""
    made_k(k)
    if wrong_at(thing, k, k, 0, 1) is not None:
        raise BadView(0)
    return thing


def views_by_start(k, row):
    """The list of the views at the cells 0, 1 and so on, for one round of the row."""
    once = cells_once(row)
    # A view may go round several times, when the round has fewer than k cells.
    cells = once * (k // len(once) + 2)
    return [cells[start:start + k] for start in range(len(once))]


def views(k, row):
    """The unlike views of the row, rising."""
    made_k(k)
    made_row(row)
    return tuple(sorted(set(views_by_start(k, row))))


def blank(k, row):
    """Whether the row has the view without dots."""
    made_k(k)
    made_row(row)
    # A gap of k + 1 is the least one with k empty cells between its two dots.
    return not row or max(row) > k


def owned(k, row):
    """For each gap the first and the last place at which the dot before it is alone, or None."""
    made_k(k)
    made_row(row)
    found = []
    for at, right in enumerate(row):
        left = row[at - 1]
        # The dot to the left is out of sight up to the place `left`, the one to the right
        # is out of sight while at most right - 1 cells are seen behind the dot.
        first = max(1, k + 1 - right)
        last = min(k, left)
        found.append((first, last) if first <= last else None)
    return tuple(found)


def alone(k, row):
    """All places at which some dot of the row is alone, rising."""
    spans = [span for span in owned(k, row) if span is not None]
    return tuple(sorted({place for first, last in spans for place in range(first, last + 1)}))
