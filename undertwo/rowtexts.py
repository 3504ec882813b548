"""Texts of rows."""

from undertwo.basic import is_within
from undertwo.errors import BadGap, TooMany
from undertwo.rows import GREATEST_GAP, MOST_GAPS, MOST_ROWS, made_rows
from undertwo.words import BETWEEN, Words, is_number_word

NO_ROWS = "none"
DARK = "dark"


def taken_gaps(words):
    """Takes the gaps of a row; returns the tuple of them."""
    gaps = []
    while is_number_word(words.word()):
        place = words.place()
        gap = words.take_number()
        if len(gaps) == MOST_GAPS:
            raise TooMany(place)
        if not is_within(gap, 1, GREATEST_GAP):
            raise BadGap(place)
        gaps.append(gap)
    return tuple(gaps)


def taken_row(words, before):
    """Takes a row behind so many others; returns it."""
    words.check(words.word() == DARK or is_number_word(words.word()))
    if before == MOST_ROWS:
        raise TooMany(words.place())
    if words.word() == DARK:
        words.take()
        return ()
    return taken_gaps(words)


def read_rows(text):
    """The rows that the text tells."""
    words = Words(text, "")
    rows = []
    if words.word() == NO_ROWS:
        words.take()
    else:
        rows.append(taken_row(words, 0))
        while words.word() == BETWEEN:
            words.take()
            rows.append(taken_row(words, len(rows)))
    words.finish()
    return tuple(rows)


def row_text(row):
    """The text of one row."""
    if not row:
        return DARK
    return " ".join([str(gap) for gap in row])


def print_rows(rows):
    """The text of the rows."""
    if not made_rows(rows):
        return NO_ROWS
    return " | ".join([row_text(row) for row in rows])
