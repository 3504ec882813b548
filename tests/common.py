"""What the tests share: how errors are looked at, wrong values, and plain reckonings."""

import itertools
import unittest
import weakref
from functools import lru_cache

from undertwo import errors
from undertwo.errors import Refused


def nested(depth):
    """A tuple, nested so deep."""
    thing = ()
    for _ in range(depth - 1):
        thing = (thing,)
    return thing


# Values of many kinds, none of which is a number, a row, a machine ...
NO_NUMBERS = (True, False, None, "", "1", "a", "row", (), (1,), ((1,),), (True,), [], [1], [[1]], nested(20))
NO_TUPLES = (True, False, None, 0, 1, -1, 10 ** 40, "", "1", "(1,)", [], [1], [1, 2], [[1]], [(1,)])


class Case(unittest.TestCase):
    """A test case that knows how an error of the package must be."""

    def setUp(self):
        # Each test has the same chances, whichever tests ran before it.
        for chances in list(Chances.every):
            chances.begin()

    def refused(self, kind, what, action, *given, **named):
        """The action raises just this error, under `Refused` alone, with just this in `what`."""
        asked = f"{action.__name__}{given}{named}"[:600]
        with self.assertRaises(Refused, msg=asked) as held:
            action(*given, **named)
        error = held.exception
        told = f"{asked}: {error!r} {error.what!r}"
        self.assertIs(type(error), kind, told)
        self.assertEqual(error.what, what, told)
        self.assertIs(type(error.what), type(what), told)
        chain = type(error).__mro__
        self.assertEqual(chain[1:4], (Refused, ValueError, Exception), told)

    def tuples_only(self, thing):
        """The thing is built of tuples, numbers, texts, None, and True or False themselves."""
        self.assertIn(type(thing), (tuple, int, str, bool, type(None)))
        if isinstance(thing, tuple):
            for item in thing:
                self.tuples_only(item)

    def is_true(self, thing):
        self.assertIs(thing, True)

    def is_false(self, thing):
        self.assertIs(thing, False)


class Chances:
    """Numbers that look thrown, but are the same each time."""

    every = weakref.WeakSet()

    def __init__(self, seed):
        self.seed = seed
        self.begin()
        Chances.every.add(self)

    def begin(self):
        self.state = self.seed

    def below(self, bound):
        self.state = (self.state * 6364136223846793005 + 1442695040888963407) % 2 ** 64
        return (self.state >> 33) % bound

    def row(self, gaps, greatest):
        return tuple(self.below(greatest) + 1 for _ in range(gaps))

    def machine(self, letters, rooms, moves):
        every = list(itertools.product(range(rooms), range(letters), range(rooms)))
        some = sorted({every[self.below(len(every))] for _ in range(moves)}) if every else []
        starts = tuple(room for room in range(rooms) if self.below(2))
        ends = tuple(room for room in range(rooms) if self.below(2))
        return (letters, rooms, starts, ends, tuple(some))


# Plain reckonings of rows: cells from dot to dot, cut into lots of k neighbouring cells.

def dots_between(row, low, high):
    """The cells from low to high, high not with them, that have a dot: by going from dot to dot."""
    found = set()
    if not row:
        return found
    at, gap = 0, 0
    while at < high:
        if at >= low:
            found.add(at)
        at += row[gap % len(row)]
        gap += 1
    at, gap = 0, 0
    while at >= low:
        if at < high:
            found.add(at)
        gap -= 1
        at -= row[gap % len(row)]
    return found


def plain_cells(row, start, many):
    """The cells of the row, told by its dots."""
    dots = dots_between(row, start, start + many)
    return tuple(1 if at in dots else 0 for at in range(start, start + many))


def plain_views(k, row):
    """The unlike views, cut out of more cells than two rounds have."""
    cells = plain_cells(row, -sum(row), 3 * sum(row) + k + 1)
    return tuple(sorted({cells[at:at + k] for at in range(len(cells) - k + 1)}))


def plain_places(k, row):
    """For the dot of each gap, all places at which it is the only dot of a view."""
    dots = dots_between(row, -2 * k, sum(row) + 2 * k)
    found = []
    for gap in range(len(row)):
        dot = sum(row[:gap])
        found.append([place for place in range(1, k + 1)
                      if [at for at in range(dot - place + 1, dot - place + 1 + k) if at in dots] == [dot]])
    return found


def small_rows(gaps, greatest):
    """All rows of up to so many gaps, none greater than that, the dark one first."""
    return [row for many in range(gaps + 1) for row in itertools.product(range(1, greatest + 1), repeat=many)]


def plain_shared(k, rows):
    """The first two rows with a common view, by looking at each view of each two rows."""
    cut = [set(plain_views(k, row)) for row in rows]
    for one, two in itertools.combinations(range(len(rows)), 2):
        if cut[one] & cut[two]:
            return (one, two, min(cut[one] & cut[two]))
    return None


# Plain reckonings of machines: words let by going over all runs.

def words_up_to(letters, length):
    """All words of up to so many letters, in order."""
    return [word for many in range(length + 1) for word in itertools.product(range(letters), repeat=many)]


def runs_of(machine, word):
    """All runs of the word, in order, out of all tuples of rooms."""
    _, rooms, starts, ends, moves = machine
    found = []
    for run in itertools.product(range(rooms), repeat=len(word) + 1):
        if run[0] in starts and run[-1] in ends:
            if all((run[at], word[at], run[at + 1]) in moves for at in range(len(word))):
                found.append(run)
    return found


@lru_cache(maxsize=None)
def let_words(machine, length):
    """All words of up to so many letters that the machine lets, in order: runs grown letter by letter."""
    letters, _, starts, ends, moves = machine
    found = []
    grown = [((), frozenset(starts))]
    while grown:
        longer = []
        for word, rooms in grown:
            if rooms & set(ends):
                found.append(word)
            if len(word) < length:
                for letter in range(letters):
                    after = frozenset(two for one, by, two in moves if by == letter and one in rooms)
                    longer.append((word + (letter,), after))
        grown = longer
    return found


def renamed(machine, order):
    """The same machine with its rooms in another order, and useless rooms behind them."""
    letters, rooms, starts, ends, moves = machine
    place = {room: at for at, room in enumerate(order)}
    moved = [(place[one], by, place[two]) for one, by, two in moves]
    return (letters, rooms, tuple(sorted(place[room] for room in starts)),
            tuple(sorted(place[room] for room in ends)), tuple(sorted(moved)))


EVEN = (1, 2, (0,), (0,), ((0, 0, 1), (1, 0, 0)))
THIRD = (2, 4, (0,), (3,), ((0, 0, 0), (0, 0, 1), (0, 1, 0), (1, 0, 2), (1, 1, 2), (2, 0, 3), (2, 1, 3)))


def circle(rooms, ends, starts=(0,), first=0, letter=0):
    """The moves of a circle of rooms, and its starts and ends, all shifted by `first`."""
    moves = [(first + room, letter, first + (room + 1) % rooms) for room in range(rooms)]
    return moves, [first + room for room in starts], [first + room for room in ends]


def ring(rooms, ends):
    """A machine of one letter that goes round and round."""
    moves, starts, last = circle(rooms, ends)
    return (1, rooms, tuple(starts), tuple(last), tuple(sorted(moves)))


def chain(letters_of_word):
    """The machine of one letter that lets just the word of so many letters."""
    many = letters_of_word
    return (1, many + 1, (0,), (many,), tuple((room, 0, room + 1) for room in range(many)))


def two_circles(one, two, ends, tail=0, blind=False):
    """A machine of two circles that turn side by side, behind a tail of rooms; blind: with a letter without moves."""
    first, starts, last = circle(one, [0])
    second, more, _ = circle(two, [0], first=one)
    moves = first + second
    begin = starts + more
    rooms = one + two
    for _ in range(tail):
        moves = moves + [(rooms, 0, room) for room in begin]
        begin = [rooms]
        rooms += 1
    return (2 if blind else 1, rooms, tuple(sorted(begin)), tuple(sorted(ends)), tuple(sorted(moves)))


def tail_and_ring(tail, rooms, ends):
    """A machine of one letter that goes through the rooms of a tail and then round and round."""
    last = tail + rooms - 1
    moves = tuple((room, 0, room + 1) for room in range(last)) + ((last, 0, tail),)
    return (1, tail + rooms, (0,), ends, moves)


def all_words(letters, of):
    """The machine of so many letters that lets all words of some of them."""
    return (letters, 1, (0,), (0,), tuple((0, letter, 0) for letter in of))


def no_words(letters):
    """A machine that lets no word."""
    return (letters, 0, (), (), ())


def empty_word(letters):
    """A machine that lets the empty word alone."""
    return (letters, 1, (0,), (0,), ())


# Wrong values for the arguments, each with the error that it must raise and what that keeps.

def wrong_numbers(low, high, kind):
    """What is not a number from low to high."""
    return [(thing, kind, 0) for thing in NO_NUMBERS + (low - 1, high + 1, -10 ** 40, 10 ** 40)]


def wrong_tuples(kind):
    """What is not a tuple at all."""
    return [(thing, kind, -1) for thing in NO_TUPLES]


WRONG_K = wrong_numbers(1, 60, errors.BadK)

WRONG_ROW = wrong_tuples(errors.BadRow) + [
    ((1,) * 25, errors.BadRow, -1), ((0,) * 25, errors.BadRow, -1), ((None,) * 300, errors.BadRow, -1),
    ((0,), errors.BadRow, 0), ((100,), errors.BadRow, 0), ((-1,), errors.BadRow, 0), ((10 ** 40,), errors.BadRow, 0),
    ((True,), errors.BadRow, 0), ((3, True), errors.BadRow, 1), ((3, False, 0), errors.BadRow, 1),
    ((3, 1, "1"), errors.BadRow, 2), ((3, None), errors.BadRow, 1), ((3, (1,)), errors.BadRow, 1),
    ((3, [1]), errors.BadRow, 1), ((nested(19),), errors.BadRow, 0), ((1,) * 23 + (0,), errors.BadRow, 23),
    ((1, 100, 0), errors.BadRow, 1)]

WRONG_ROWS = wrong_tuples(errors.BadRows) + [
    (((2,),) * 9, errors.BadRows, -1), ((None,) * 9, errors.BadRows, -1), ((2,), errors.BadRows, 0),
    (((2,), [3, 1]), errors.BadRows, 1), (((2,), (3, True)), errors.BadRows, 1), (((), None, 1), errors.BadRows, 1),
    (((2,), (3, 1), "row"), errors.BadRows, 2), (((1,) * 25,), errors.BadRows, 0), (((0,),), errors.BadRows, 0),
    (((100,),), errors.BadRows, 0), ((((1,),),), errors.BadRows, 0), (((2,),) * 7 + (True,), errors.BadRows, 7)]

WRONG_TS = wrong_tuples(errors.BadTs) + [
    ((), errors.BadTs, -1), ((1,) * 9, errors.BadTs, -1), ((0,) * 9, errors.BadTs, -1), ((0,), errors.BadTs, 0),
    ((61,), errors.BadTs, 0), ((-1,), errors.BadTs, 0), ((True,), errors.BadTs, 0), ((1, False), errors.BadTs, 1),
    ((1, 1, "1"), errors.BadTs, 2), ((1, None, None), errors.BadTs, 1), ((1, (1,)), errors.BadTs, 1),
    ((1, [1]), errors.BadTs, 1), ((1,) * 7 + (61,), errors.BadTs, 7), ((1, 10 ** 40, 0), errors.BadTs, 1)]

WRONG_VIEW_OF_3 = [(thing, errors.BadView, 0) for thing in NO_TUPLES + (
    (), (0, 0), (0, 0, 0, 0), (0, 1, 2), (0, 1, -1), (True, 0, 1), (0, False, 1), (0, 0, "0"), (0, 0, None),
    (0, 0, (0,)), ((0, 0, 0),), [0, 0, 0], (0, [], 0), "010", (nested(19), 0, 0))]

WRONG_MACHINE = wrong_tuples(errors.BadMachine) + [
    (thing, errors.BadMachine, -1) for thing in (
        (), (1, 1, (0,), (0,)), (1, 1, (0,), (0,), (), ()), [1, 1, (0,), (0,), ()], (0, 1, (0,), (0,), ()),
        (5, 1, (0,), (0,), ()), (True, 1, (0,), (0,), ()), ("1", 1, (0,), (0,), ()), (None, 1, (0,), (0,), ()),
        ((1,), 1, (0,), (0,), ()), (1, -1, (), (), ()), (1, 41, (0,), (0,), ()), (1, True, (0,), (0,), ()),
        (1, False, (), (), ()), (1, "1", (0,), (0,), ()), (1, [1], (0,), (0,), ()), (1, None, (), (), ()),
        (1, -1, None, None, None), (nested(19),) * 5)] + [
    ((2, 3, starts, (0,), ()), errors.BadMachine, 0) for starts in (
        None, True, 0, "0", [], [0], (3,), (-1,), (True,), (False,), (0, True), ("0",), (None,), ((0,),), ([0],),
        (1, 0), (0, 0), (0, 2, 1), (0, 1, 2, 2), (0, 1, 2, 3), nested(19))] + [
    ((2, 3, (0,), ends, ()), errors.BadMachine, 1) for ends in (
        None, True, 0, "0", [], [0], (3,), (-1,), (True,), (False,), (0, True), ("0",), (None,), ((0,),), ([0],),
        (1, 0), (0, 0), (0, 2, 1), (0, 1, 2, 2), (0, 1, 2, 3), nested(19))] + [
    ((2, 3, (0,), (0,), moves), errors.BadMachine, 2) for moves in (
        None, False, 0, "", [], [(0, 0, 0)], (0, 0, 0), ([0, 0, 0],), ((0, 0),), ((0, 0, 0, 0),), ((3, 0, 0),),
        ((0, 2, 0),), ((0, 0, 3),), ((-1, 0, 0),), ((0, -1, 0),), ((0, 0, -1),), ((True, 0, 0),), ((0, True, 0),),
        ((0, 0, False),), (("0", 0, 0),), ((0, None, 0),), ((0, 0, (0,)),), ((0, 0, [0]),), (None,), ("000",),
        ((0, 0, 0), (0, 0, 0)), ((0, 0, 1), (0, 0, 0)), ((0, 1, 0), (0, 0, 1)), ((1, 0, 0), (0, 1, 1)),
        ((0, 0, 0), None), ((0, 0, 0), (0, 0, True)), nested(19))] + [
    ((2, 3, None, None, None), errors.BadMachine, 0), ((2, 3, (), None, None), errors.BadMachine, 1),
    ((1, 0, (0,), (), ()), errors.BadMachine, 0), ((1, 0, (), (0,), ()), errors.BadMachine, 1),
    ((1, 0, (), (), ((0, 0, 0),)), errors.BadMachine, 2)]

WRONG_WORD_OF_2 = wrong_tuples(errors.BadWord) + [
    ((0,) * 201, errors.BadWord, -1), ((None,) * 201, errors.BadWord, -1), ((2,), errors.BadWord, 0),
    ((-1,), errors.BadWord, 0), ((True,), errors.BadWord, 0), ((0, False), errors.BadWord, 1),
    ((0, 1, "0"), errors.BadWord, 2), ((1, None, 2), errors.BadWord, 1), ((0, (0,)), errors.BadWord, 1),
    ((0, [0]), errors.BadWord, 1), ((0,) * 199 + (2,), errors.BadWord, 199), ((10 ** 40,), errors.BadWord, 0),
    ((nested(19),), errors.BadWord, 0)]

WRONG_WEIGHTS = wrong_tuples(errors.BadWeights) + [
    ((), errors.BadWeights, -1), ((1,) * 6, errors.BadWeights, -1), ((None,) * 6, errors.BadWeights, -1),
    ((-1,), errors.BadWeights, 0), ((1001,), errors.BadWeights, 0), ((True,), errors.BadWeights, 0),
    ((0, False), errors.BadWeights, 1), ((0, 1, "1"), errors.BadWeights, 2), ((0, None, -1), errors.BadWeights, 1),
    ((0, (1,)), errors.BadWeights, 1), ((0, [1]), errors.BadWeights, 1), ((0,) * 4 + (1001,), errors.BadWeights, 4)]

WRONG_LOT_OF_2 = [(thing, errors.BadLot, 0) for thing in NO_TUPLES + (
    (2,), (-1,), (True,), (False,), (0, True), (1, 0), (0, 0), (0, 1, 2), (0, 1, 1), ("0",), (None,), ((0,),), ([0],),
    (0, 10 ** 40), ((), ()), nested(20))]

# For a machine of two letters.
WRONG_LINE_OF_2 = wrong_tuples(errors.BadLine) + [
    ((0,) * 6001, errors.BadLine, -1), ((None,) * 6001, errors.BadLine, -1), ((2,), errors.BadLine, 0),
    ((0, 7), errors.BadLine, 1), ((0, 1, -1), errors.BadLine, 2), ((True,), errors.BadLine, 0),
    ((0, False), errors.BadLine, 1), ((1, "1"), errors.BadLine, 1), ((None, 2), errors.BadLine, 0),
    ((0, (0,)), errors.BadLine, 1), ((0, [0]), errors.BadLine, 1), ((3, 4, 10 ** 40), errors.BadLine, 2),
    ((nested(19),), errors.BadLine, 0), ((0,) * 5999 + (2,), errors.BadLine, 5999)]

WRONG_LINE_OF_4 = WRONG_LINE_OF_2 + [((3, 6, 7), errors.BadLine, 2)]
WRONG_LINE_OF_2 = WRONG_LINE_OF_2 + [((3, 4, 5), errors.BadLine, 2), ((6,), errors.BadLine, 0)]

WRONG_WORD_OF_4 = [(thing, kind, what) for thing, kind, what in WRONG_WORD_OF_2 if what < 0 or thing[what] != 2] + [
    ((4,), errors.BadWord, 0), ((3, 2, 4, -1), errors.BadWord, 2), ((3,) * 199 + (4,), errors.BadWord, 199)]

# For a word of two letters.
WRONG_LENGTHS_OF_3 = wrong_tuples(errors.BadLengths) + [
    ((), errors.BadLengths, -1), ((12, 12), errors.BadLengths, -1), ((12,) * 4, errors.BadLengths, -1),
    ((None,) * 4, errors.BadLengths, -1), ((-1, 12, 12), errors.BadLengths, 0), ((12, 5001, 12), errors.BadLengths, 1),
    ((12, 12, 5001), errors.BadLengths, 2), ((True, 12, 12), errors.BadLengths, 0),
    ((12, False, None), errors.BadLengths, 1), ((12, 12, "12"), errors.BadLengths, 2),
    ((None, 12, 12), errors.BadLengths, 0), ((12, (12,), 12), errors.BadLengths, 1),
    ((12, 12, [12]), errors.BadLengths, 2), ((10 ** 40, 12, 12), errors.BadLengths, 0),
    ((nested(19), 12, 12), errors.BadLengths, 0)]

WRONG_INSPECTOR = wrong_tuples(errors.BadInspector) + [
    (thing, errors.BadInspector, -1) for thing in (
        (), (1, 2), (1, 2, (), ()), [1, 2, ()], (0, 2, ()), (61, 122, ()), (True, 2, ()), ("1", 2, ()), (None, 2, ()),
        ((1,), 2, ()), (1, True, ()), (1, "2", ()), (1, None, ()), (1, (2,), ()), (1, 1, ()), (1, 5001, ()),
        (1, 2, None), (1, 2, []), (1, 2, "00"), (1, 2, 0), (1, 2, [(0, 0)]), (False, 0, ()), nested(20),
        (1, 2, (None,) * 6001))] + [
    ((1, 2, words), errors.BadInspector, at) for words, at in (
        ((None,), 0), (((0, 0), None), 1), (((0,),), 0), (((0, 0, 0),), 0), (((0, 7),), 0), (((0, -1),), 0),
        (((0, 0), (0, 1), (1, 7)), 2), (((True, 0),), 0), (((0, 0), (0, True)), 1), ((((0,), 0),), 0), (([0, 0],), 0),
        (((0, 0), "01"), 1), (((0, 0), (0, 0)), 1), (((0, 3), (0, 0)), 1), (((0, 0), (0, 2), (0, 2), (0, 9)), 2))]

WRONG_LIMIT = [(thing, errors.BadLimit, 0) for thing in NO_TUPLES + (
    (), (0,), (0, 1, 1), (0, 0), (1, 0), (-1, 2), (0, 2), (2, 4), (3, 2), (2, 2), (1000, 1000), (1, 1001),
    (1001, 1002), (0, -1), (-1, -2), (True, 1), (0, True), (False, 1), ("0", 1), (0, "1"), (None, 1), (0, None),
    ((0,), 1), (0, (1,)), ([0], 1), (0, [1]), [0, 1], ((0, 1),), nested(20), (10 ** 40, 10 ** 40 + 1), (500, 1000))]

NO_TEXTS = (True, False, None, 0, 1, -1, 10 ** 40, (), ("a",), [], ["a"], [["a"]], ("a", ("b",)), nested(20))

# Not texts, too long ones, and ones with signs that texts do not have: what no reader looks at any further.
WRONG_TEXT = [(thing, errors.BadText, -1) for thing in NO_TEXTS] + [
    (" " * 20001, errors.BadText, 20000), (" " * 20000 + "\n", errors.BadText, 20000), ("\n", errors.BadText, 0),
    ("a\tb", errors.BadText, 1), ("1 \x7f", errors.BadText, 2), ("\x1f", errors.BadText, 0),
    ("?" * 30 + "\u00e9", errors.BadText, 30), ("\u00e9" * 20001, errors.BadText, 0), ("\ud800", errors.BadText, 0),
    ("*\r\n", errors.BadText, 1), ("\x00", errors.BadText, 0)]

NO_NAMES = ("", "A", "1", "1a", "aB", "a_", "a-b", "a b", " a", "a ", "a" * 13, "o", "any", "empty", "none", "dark",
            "k", "m", "rooms", "starts", "ends", "law", "show", "drop", "back", "again", "least", "price", "paint",
            "line", "\u00e9", "a\n", "0", "-", "(", "+") + NO_TEXTS

WRONG_NAMES = wrong_tuples(errors.BadNames) + [
    ((), errors.BadNames, -1), (("a", "b", "c", "d", "e"), errors.BadNames, -1), ((None,) * 5, errors.BadNames, -1),
    (("b", "a"), errors.BadNames, 1), (("a", "a"), errors.BadNames, 1), (("a", "b", "b", None), errors.BadNames, 2),
    (("a", "c", "b"), errors.BadNames, 2), (("a", "c", "d", "b"), errors.BadNames, 3), (("b", "A"), errors.BadNames, 1),
    ("ab", errors.BadNames, -1), (["a", "b"], errors.BadNames, -1)] + [
    ((name,), errors.BadNames, 0) for name in NO_NAMES] + [(("a", name), errors.BadNames, 1) for name in NO_NAMES]
