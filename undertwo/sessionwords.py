"""Rows of a session: their words, and what these tell."""

from undertwo.lawtexts import taken_names
from undertwo.lawwords import taken_law
from undertwo.linetexts import taken_pieces

# What stands behind the first word of a row; small words and signs stand for themselves.
PARTS_OF_ROWS = {
    "law": ("NAME", "(", "NAMES", ")", "LAW"),
    "show": ("NAME",),
    "drop": ("NAME",),
    "back": (),
    "again": (),
    "least": ("NAME",),
    "price": ("NAME", "NUMBER"),
    "paint": ("NAME", "NUMBER", ":", "LINE"),
    "line": (),
    "put": ("NUMBER", "NAME", "NUMBER"),
    "cut": ("NUMBER",),
    "size": ("NUMBER", "NUMBER"),
    "undo": (),
    "redo": (),
    "seen": ("NUMBER",),
    "wipe": ("NUMBER",),
}


def taken_part(words, part, before):
    """Takes a part of a row; returns what it tells. `before` has what the parts before it told."""
    if part == "NAME":
        return words.take_name()
    if part == "NAMES":
        return taken_names(words)
    if part == "NUMBER":
        return words.take_number()
    if part == "LAW":
        # The names of its letters are the part before it.
        return taken_law(words, before[-1])
    return taken_pieces(words, None, False)


def taken_session_row(words):
    """Takes all words of a row; returns its first word and the list of what its parts tell, signs left out."""
    words.check(words.word() in PARTS_OF_ROWS)
    kind = words.take()
    told = []
    for part in PARTS_OF_ROWS[kind]:
        if part.isupper():
            told.append(taken_part(words, part, told))
        else:
            words.take_just(part)
    words.finish()
    return (kind, told)
