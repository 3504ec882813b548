"""The room that a single view of plain cells tells."""

from undertwo.errors import TooThin
from undertwo.madewords import heads_of
from undertwo.painter import small_trimmed
from undertwo.prices import sure_from
from undertwo.rows import made_k
from undertwo.views import made_view


def views_ahead(k, rooms, room):
    """Views of k cells that stand in the stretches of one of so many rooms, some more than once; all others
    are these turned about, as a made stretch turned about is a made stretch of its room."""
    short, long = heads_of(k, rooms, room)
    return [cells[at:at + k] for cells in long for at in range(len(cells) - k + 1)]


def rooms_of_views(k, rooms):
    """For each view that stands in the stretches of a room, this room: there is one such room at most."""
    found = {}
    for room in range(rooms):
        for view in views_ahead(k, rooms, room):
            found[view] = room
            found[view[::-1]] = room
    return found


def room_seen(machine, k, view):
    """The room of the trimmed machine in whose stretches the view stands, or None."""
    rooms = small_trimmed(machine)[1]
    made_view(made_k(k), view)
    if k < sure_from(rooms):
        raise TooThin(sure_from(rooms))
    for room in range(rooms):
        ahead = views_ahead(k, rooms, room)
        if view in ahead or view[::-1] in ahead:
            return room
    return None
