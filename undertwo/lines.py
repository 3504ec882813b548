"""Lines of cells: their stations and their plain stretches."""

from undertwo.basic import is_within, wrong_at
from undertwo.errors import BadLengths, BadLine, TooLong
from undertwo.machines import made_machine, made_word

EMPTY = 0
DOT = 1
END = 2
FIRST_STATION = 3
MOST_CELLS_OF_LINE = 6000
GREATEST_LENGTH = 5000

# A machine of all letters, for lines and words that are asked for without a machine.
ALL_LETTERS = (4, 0, (), (), ())


def is_cell(letters, thing):
    """Whether the thing is an empty cell, a dot or a station with one of so many letters."""
    return is_within(thing, EMPTY, FIRST_STATION + letters - 1) and thing != END


def made_line(machine, thing):
    """The thing, if it is a line with letters of the machine."""
    letters = made_machine(machine)[0]
    if not isinstance(thing, tuple) or len(thing) > MOST_CELLS_OF_LINE:
        raise BadLine(-1)
    for at, cell in enumerate(thing):
        if not is_cell(letters, cell):
            raise BadLine(at)
    return thing


def made_lengths(word, thing):
    """The thing, if it is a tuple of lengths for the word."""
    made_word(ALL_LETTERS, word)
    wrong = wrong_at(thing, len(word) + 1, len(word) + 1, 0, GREATEST_LENGTH)
    if wrong is not None:
        raise BadLengths(wrong)
    return thing


def stretches_of(line):
    """The plain stretches of the line, each one a tuple of cells."""
    found = []
    first = 0
    for at, cell in enumerate(line):
        if cell >= FIRST_STATION:
            found.append(line[first:at])
            first = at + 1
    found.append(line[first:])
    return found


def stations(line):
    """The word of the line."""
    made_line(ALL_LETTERS, line)
    return tuple([cell - FIRST_STATION for cell in line if cell >= FIRST_STATION])


def sizes(line):
    """The lengths of the line."""
    made_line(ALL_LETTERS, line)
    return tuple([len(cells) for cells in stretches_of(line)])


def dots_in(line):
    """The numbers of dots in the plain stretches of the line."""
    made_line(ALL_LETTERS, line)
    return tuple([sum(cells) for cells in stretches_of(line)])


def undotted(line):
    """The line with an empty cell in the place of each dot."""
    made_line(ALL_LETTERS, line)
    return tuple([EMPTY if cell == DOT else cell for cell in line])


def check_cells(word, lengths):
    """Refuses a word and lengths that make a line of too many cells."""
    cells = len(word) + sum(lengths)
    if cells > MOST_CELLS_OF_LINE:
        raise TooLong(cells)


def line_of(word, stretches):
    """The line with these stations, and with these cells ahead of the first, between and behind them."""
    cells = list(stretches[0])
    for letter, plain in zip(word, stretches[1:]):
        cells.append(FIRST_STATION + letter)
        cells.extend(plain)
    return tuple(cells)


def bare(word, lengths):
    """The line with this word and these lengths and without dots."""
    made_lengths(word, lengths)
    check_cells(word, lengths)
    return line_of(word, [(EMPTY,) * size for size in lengths])
