"""Texts of inspectors."""

from undertwo.basic import is_within
from undertwo.errors import BadK, Long, Short, Twice
from undertwo.inspectors import GREATEST_M, made_inspector
from undertwo.rows import GREATEST_K
from undertwo.words import LONGEST_TEXT, NONE, Words

# Each cell is written as the sign that stands at its number.
CELL_SIGNS = ".o#abcd"
SIGNS_OF_RUNS = ".#"


def are_cells(k, word):
    """Whether the word writes k + 1 cells."""
    return len(word) == k + 1 and all([sign in CELL_SIGNS for sign in word])


def taken_words(words, k):
    """Takes all words to the end of the text as words of k + 1 cells; returns the rising tuple of these."""
    if words.word() == NONE:
        words.take()
        words.finish()
        return ()
    found = {}
    while not found or words.word() != "":
        words.check(are_cells(k, words.word()))
        place = words.place()
        cells = tuple([CELL_SIGNS.find(sign) for sign in words.take()])
        if cells in found:
            raise Twice(place)
        found[cells] = True
    return tuple(sorted(found))


def read_inspector(text):
    """The inspector that the text tells."""
    words = Words(text, SIGNS_OF_RUNS)
    words.take_just("k")
    k = words.take_number()
    if not is_within(k, 1, GREATEST_K):
        raise BadK(0)
    words.take_just("m")
    place = words.place()
    m = words.take_number()
    if not is_within(m, 2 * k, GREATEST_M):
        raise Short(place)
    words.take_just(":")
    return (k, m, taken_words(words, k))


def print_inspector(inspector):
    """The text of the inspector."""
    k, m, words = made_inspector(inspector)
    texts = ["".join([CELL_SIGNS[cell] for cell in word]) for word in words] if words else [NONE]
    text = " ".join([f"k {k} m {m}:", *texts])
    if len(text) > LONGEST_TEXT:
        raise Long(0)
    return text
