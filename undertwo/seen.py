"""The room that a single view of plain cells tells."""

from undertwo.errors import TooThin
from undertwo.madewords import heads_of, plain_words
from undertwo.painter import small_trimmed
from undertwo.prices import sure_from
from undertwo.rows import made_k
from undertwo.views import made_view


def room_seen(machine, k, view):
    """The room of the trimmed machine in whose stretches the view stands, or None."""
    rooms = small_trimmed(machine)[1]
    made_view(made_k(k), view)
    if k < sure_from(rooms):
        raise TooThin(sure_from(rooms))
    for room in range(rooms):
        short, long = heads_of(k, rooms, room)
        # A stretch has more than k cells, so each view of it begins or ends a word of it.
        if any([view == word[:k] or view == word[1:] for word in plain_words(k, long)]):
            return room
    return None
