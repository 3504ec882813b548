"""[17] and [17.1] Lines."""

import unittest

from tests.common import EVEN, NO_TUPLES, THIRD, Case, Chances, no_words, nested
from undertwo.errors import BadLengths, BadLine, BadMachine, BadWord, TooLong
from undertwo.lines import bare, dots_in, made_lengths, made_line, sizes, stations, undotted

CHANCES = Chances(1717)


def put_together(word, plain):
    """The line of these stations, with these stretches ahead of, between and behind them."""
    cells = ()
    for at, stretch in enumerate(plain):
        cells += stretch + ((3 + word[at],) if at < len(word) else ())
    return cells


def some_parts():
    """A word and plain stretches, some of them of no cells."""
    many = CHANCES.below(6)
    word = tuple(CHANCES.below(4) for _ in range(many))
    plain = tuple(tuple(CHANCES.below(2) for _ in range(CHANCES.below(4) * CHANCES.below(5))) for _ in range(many + 1))
    return word, plain


class Lines(Case):

    def test_put_together_and_taken_apart(self):
        for _ in range(400):
            word, plain = some_parts()
            line = put_together(word, plain)
            self.assertEqual(stations(line), word)
            self.assertEqual(sizes(line), tuple(len(cells) for cells in plain))
            self.assertEqual(dots_in(line), tuple(sum(cells) for cells in plain))
            dark = put_together(word, [(0,) * len(cells) for cells in plain])
            self.assertEqual(undotted(line), dark)
            self.assertEqual(bare(word, sizes(line)), dark)
            self.assertEqual(bare(stations(line), sizes(line)), dark)
            self.assertEqual(made_line(no_words(4), line), line)
            for told in (stations(line), sizes(line), dots_in(line), undotted(line), bare(word, sizes(line))):
                self.tuples_only(told)

    def test_edges(self):
        self.assertEqual((stations(()), sizes(()), dots_in(()), undotted(())), ((), (0,), (0,), ()))
        self.assertEqual((stations((1, 0, 1)), sizes((1, 0, 1)), dots_in((1, 0, 1))), ((), (3,), (2,)))
        # Stations at both ends and side by side.
        line = (3, 6, 1, 5, 4, 4)
        self.assertEqual((stations(line), sizes(line), dots_in(line)),
                         ((0, 3, 2, 1, 1), (0, 0, 1, 0, 0, 0), (0, 0, 1, 0, 0, 0)))
        self.assertEqual(undotted(line), (3, 6, 0, 5, 4, 4))
        self.assertEqual(bare((0, 3), (0, 0, 0)), (3, 6))
        self.assertEqual(bare((), (0,)), ())

    def test_6000_cells_and_6001(self):
        for cell in (0, 1, 3, 6):
            line = (cell,) * 6000
            self.assertEqual(made_line(no_words(4), line), line)
            self.assertEqual(len(undotted(line)), 6000)
            for action in (stations, sizes, dots_in, undotted):
                self.refused(BadLine, -1, action, line + (0,))
            self.refused(BadLine, -1, made_line, no_words(4), line + (0,))
        self.refused(BadLine, -1, made_line, no_words(1), (None,) * 6001)
        self.assertEqual(len(bare((0, 0), (5000, 998, 0))), 6000)
        self.refused(TooLong, 6001, bare, (0, 0), (5000, 999, 0))
        self.refused(TooLong, 1005200, bare, (0,) * 200, (5000,) * 201)
        self.assertEqual(len(bare((3,) * 200, (4800,) + (5,) * 200)), 6000)
        self.refused(TooLong, 6001, bare, (3,) * 200, (4801,) + (5,) * 200)

    def test_lines_may_have_more_than_words_and_lengths_may(self):
        # A word of more than 200 letters, a length above 5,000.
        self.assertEqual(stations((3,) * 6000), (0,) * 6000)
        self.assertEqual(stations((4,) * 201), (1,) * 201)
        self.assertEqual(sizes((1,) * 5001), (5001,))
        self.assertEqual(sizes((3,) + (0,) * 5999), (0, 5999))
        self.assertEqual(dots_in((1,) * 6000), (6000,))
        self.refused(BadWord, -1, bare, stations((4,) * 201), (0,) * 202)
        self.refused(BadLengths, 0, bare, (), sizes((1,) * 5001))

    def test_letters_of_the_machine(self):
        self.assertEqual(made_line(EVEN, (0, 1, 3)), (0, 1, 3))
        self.refused(BadLine, 2, made_line, EVEN, (0, 1, 4))
        self.assertEqual(made_line(THIRD, (4, 3)), (4, 3))
        self.refused(BadLine, 1, made_line, THIRD, (4, 5))
        self.assertEqual(made_line(no_words(3), (5,)), (5,))
        self.refused(BadLine, 0, made_line, no_words(3), (6,))
        self.refused(BadLine, 0, made_line, no_words(4), (7,))
        self.assertEqual(stations((6,)), (3,))

    def test_the_first_wrong_cell_is_told(self):
        for line, at in (((2,), 0), ((0, 2, 2), 1), ((0, 1, 7), 2), ((0, -1), 1), ((True,), 0), ((0, False), 1),
                         ((1, 1, "1"), 2), ((0, None, 2), 1), (((0,),), 0), ((0, [0]), 1), ((0,) * 5999 + (2,), 5999),
                         ((10 ** 40,), 0), ((nested(19),), 0)):
            self.refused(BadLine, at, made_line, no_words(4), line)
            for action in (stations, sizes, dots_in, undotted):
                self.refused(BadLine, at, action, line)
        for line in NO_TUPLES:
            self.refused(BadLine, -1, made_line, EVEN, line)
            for action in (stations, sizes, dots_in, undotted):
                self.refused(BadLine, -1, action, line)


class Lengths(Case):

    def test_good_ones(self):
        for word, lengths in (((), (0,)), ((), (5000,)), ((3,), (0, 5000)), ((0, 1, 2, 3), (0, 0, 0, 0, 0)),
                              ((0,) * 200, (5000,) * 201)):
            self.assertEqual(made_lengths(word, lengths), lengths)

    def test_wrong_ones(self):
        for lengths, at in (((), -1), ((0,), -1), ((0, 0, 0), -1), ((None, None, None), -1), ((-1, 0), 0),
                            ((0, 5001), 1), ((5001, 5001), 0), ((True, 0), 0), ((0, False), 1), ((0, "0"), 1), ((None, 0), 0),
                            ((0, (0,)), 1), (([0], 0), 0), ((0, 10 ** 40), 1), ((nested(19), 0), 0)):
            self.refused(BadLengths, at, made_lengths, (0,), lengths)
            self.refused(BadLengths, at, bare, (0,), lengths)
        for lengths in NO_TUPLES:
            self.refused(BadLengths, -1, made_lengths, (0,), lengths)
            self.refused(BadLengths, -1, made_lengths, (), lengths)
        self.refused(BadLengths, 200, made_lengths, (0,) * 200, (0,) * 200 + (5001,))

    def test_words_are_of_four_letters(self):
        self.assertEqual(made_lengths((0, 1, 2, 3), (1,) * 5), (1,) * 5)
        self.refused(BadWord, 1, made_lengths, (3, 4), (1,) * 3)
        self.refused(BadWord, -1, made_lengths, (0,) * 201, (1,) * 202)
        self.refused(BadWord, 0, bare, (True,), (1, 1))

    def test_the_order_of_what_is_refused(self):
        self.refused(BadWord, -1, made_lengths, None, None)
        self.refused(BadWord, 0, bare, (4,), (0,))
        self.refused(BadLengths, 2, bare, (0, 0), (5000, 5000, 5001))
        self.refused(BadMachine, 0, made_line, (1, 1, (1,), (), ()), (2,))


if __name__ == "__main__":
    unittest.main()
