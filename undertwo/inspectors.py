"""Inspectors: what they see of a line, and whether they let it pass."""

from undertwo.basic import is_within, wrong_at
from undertwo.errors import BadInspector
from undertwo.lines import ALL_LETTERS, END, made_line
from undertwo.rows import GREATEST_K, made_k

GREATEST_M = 5000
MOST_WORDS = 6000
LAST_STATION = 6


def has_frame(thing):
    """Whether the thing has three items: a k, an m for it and a tuple that is not too long."""
    if not isinstance(thing, tuple) or len(thing) != 3:
        return False
    k, m, words = thing
    if not is_within(k, 1, GREATEST_K) or not is_within(m, 2 * k, GREATEST_M):
        return False
    return isinstance(words, tuple) and len(words) <= MOST_WORDS


def made_inspector(thing):
    """The thing, if it is an inspector."""
    if not has_frame(thing):
        raise BadInspector(-1)
    k, m, words = thing
    for at, word in enumerate(words):
        if wrong_at(word, k + 1, k + 1, 0, LAST_STATION) is not None:
            raise BadInspector(at)
        if at > 0 and word <= words[at - 1]:
            raise BadInspector(at)
    return thing


def is_inspector(thing):
    """Whether the thing is an inspector."""
    try:
        made_inspector(thing)
    except BadInspector:
        return False
    return True


def steps_by(k, words):
    """The rising list of the tuples that are the first or the last k cells of these words, and for each the
    list of the indexes of those that a word leads to, rising; the last cell tells what is stepped to."""
    tuples = sorted({cells for word in words for cells in (word[:k], word[1:])})
    number = {cells: at for at, cells in enumerate(tuples)}
    steps = [[] for cells in tuples]
    for word in words:
        steps[number[word[:k]]].append(number[word[1:]])
    return (tuples, steps)


def words_at(k, line):
    """The words of the line, in the order of the places at which they begin."""
    seen = (END,) * k + line + (END,) * k
    return [seen[at:at + k + 1] for at in range(len(line) + k)]


def first_no(inspector, line):
    """The least place of the seen row at which a word begins that is not allowed, or None."""
    k, m, words = made_inspector(inspector)
    made_line(ALL_LETTERS, line)
    allowed = {word: True for word in words}
    for at, word in enumerate(words_at(k, line)):
        if word not in allowed:
            return at
    return None


def passes(inspector, line):
    """Whether all words of the line are allowed."""
    return first_no(inspector, line) is None


def words_of(k, line):
    """The unlike words of the line, rising."""
    made_k(k)
    made_line(ALL_LETTERS, line)
    return tuple(sorted(set(words_at(k, line))))
