"""Texts of lines."""

from undertwo.errors import NoName, TooMany, Unlike
from undertwo.lawtexts import made_names
from undertwo.lines import ALL_LETTERS, DOT, EMPTY, FIRST_STATION, MOST_CELLS_OF_LINE, made_line
from undertwo.words import NONE, Words, is_name, is_number_word

DOT_WORD = "o"


def is_piece(word, dotted):
    """Whether the word is a piece of a line; a dot only where lines may be dotted."""
    if word == DOT_WORD:
        return dotted
    return is_name(word) or is_number_word(word) and word != "0"


def check_name(names, piece):
    """Refuses a piece (place, word) that is a name, but none of the names."""
    place, word = piece
    if is_name(word) and word not in names:
        raise NoName(place)


def taken_pieces(words, names, dotted):
    """Takes all words to the end of the text as a line; returns its pieces (place, word). If `names` is None,
    each name is let."""
    if words.word() == NONE:
        words.take()
        words.finish()
        return []
    pieces = []
    cells = 0
    while not pieces or words.word() != "":
        words.check(is_piece(words.word(), dotted))
        pieces.append((words.place(), words.take()))
        place, word = pieces[-1]
        if names is not None:
            check_name(names, pieces[-1])
        cells += int(word) if is_number_word(word) else 1
        if cells > MOST_CELLS_OF_LINE:
            raise TooMany(place)
    return pieces


def line_of_pieces(names, pieces):
    """The line of the pieces."""
    cells = []
    for place, word in pieces:
        if is_number_word(word):
            cells.extend([EMPTY] * int(word))
        elif word == DOT_WORD:
            cells.append(DOT)
        else:
            cells.append(FIRST_STATION + names.index(word))
    return tuple(cells)


def read_line(names, text):
    """The line that the text tells."""
    made_names(names)
    return line_of_pieces(names, taken_pieces(Words(text, ""), names, True))


def words_of_line(names, line):
    """The words of the line's text, empty cells side by side as one number."""
    words = []
    empty = 0
    for cell in line:
        if cell == EMPTY:
            empty += 1
        else:
            if empty > 0:
                words.append(str(empty))
            empty = 0
            words.append(DOT_WORD if cell == DOT else names[cell - FIRST_STATION])
    if empty > 0:
        words.append(str(empty))
    return words


def print_line(names, line):
    """The text of the line."""
    made_names(names)
    made_line(ALL_LETTERS, line)
    if max(line, default=EMPTY) >= FIRST_STATION + len(names):
        raise Unlike(0)
    if not line:
        return NONE
    return " ".join(words_of_line(names, line))
