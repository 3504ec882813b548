"""[22] and [22.1] Best lines."""

import itertools
import unittest

from tests.common import (EVEN, WRONG_INSPECTOR, WRONG_LENGTHS_OF_3, WRONG_WORD_OF_4, Case, Chances, chain, nested,
                          ring, words_up_to)
from tests.test_kept import mixed_inspector
from tests.test_knots import made
from undertwo.best import best_line
from undertwo.errors import BadInspector, BadLengths, BadWord, Short, TooLong, TooMany
from undertwo.inspectors import passes, words_of
from undertwo.lines import dots_in, sizes, stations
from undertwo.machines import lets, trimmed
from undertwo.madewords import inspector
from undertwo.painter import paint

CHANCES = Chances(22)
HALF = (1, 2, ((0, 1), (0, 2), (0, 3), (1, 0), (1, 1), (1, 2), (2, 0), (2, 1), (3, 0)))
DARK = (1, 2, ((0, 0), (0, 2), (0, 3), (2, 0), (3, 0)))


def dotted(word, lengths):
    """All lines with these stations and lengths."""
    for cells in itertools.product((0, 1), repeat=sum(lengths)):
        line, at = cells[:lengths[0]], lengths[0]
        for letter, size in zip(word, lengths[1:]):
            line += (3 + letter,) + cells[at:at + size]
            at += size
        yield line


def plain_best(inspector_, word, lengths):
    """The best of all dottings that pass."""
    k, _, words = inspector_
    allowed = set(words)
    good = [line for line in dotted(word, lengths)
            if all((((2,) * k + line + (2,) * k)[at:at + k + 1]) in allowed for at in range(len(line) + k))]
    return min(good, key=lambda line: (line.count(1), line), default=None)


def seen_inspector(k, lines):
    """The inspector of all words that are seen in the lines."""
    return made(k, {word for line in lines for word in words_of(k, line)})


class Best(Case):

    def check(self, inspector_, word, lengths):
        told = best_line(inspector_, word, lengths)
        self.assertEqual(told, plain_best(inspector_, word, lengths), (inspector_, word, lengths))
        if told is not None:
            self.tuples_only(told)
            self.is_true(passes(inspector_, told))
            self.assertEqual((stations(told), sizes(told)), (word, lengths))
        return told is not None

    def test_all_inspectors_of_one_cell(self):
        every = [word for word in itertools.product(range(4), repeat=2) if word not in ((2, 2), (3, 3), (2, 3), (3, 2))]
        found = 0
        for chosen in range(0, 2 ** len(every), 5):
            inspector_ = made(1, [word for at, word in enumerate(every) if chosen >> at & 1])
            found += self.check(inspector_, (), (4,))
            found += self.check(inspector_, (0,), (2, 3))
        self.assertGreater(found, 100)

    def test_some_inspectors(self):
        found = 0
        for k, letters, plain, other, many in ((1, 2, 6, 6, 40), (2, 1, 6, 6, 60), (2, 2, 7, 5, 40), (3, 1, 7, 6, 30)):
            for _ in range(many):
                inspector_ = mixed_inspector(k, letters, plain, other)
                for word in words_up_to(letters, 1):
                    lengths = tuple(2 * k + CHANCES.below(2) for _ in range(len(word) + 1))
                    found += self.check(inspector_, word, lengths)
        self.assertGreater(found, 100)

    def test_several_stations(self):
        found = 0
        for _ in range(40):
            inspector_ = mixed_inspector(1, 4, 7, 7)
            for word in ((3,), (1, 2), (3, 3), (0, 3, 1)):
                lengths = tuple(2 + CHANCES.below(2) for _ in range(len(word) + 1))
                found += self.check(inspector_, word, lengths)
        self.assertGreater(found, 50)

    def test_inspectors_of_some_lines(self):
        # What passes is grown together from a few lines.
        for k in (2, 3, 4):
            for _ in range(25):
                lines = []
                for _ in range(3):
                    lengths = tuple(2 * k + CHANCES.below(3) for _ in range(2 if k < 4 else 1))
                    cells = [[CHANCES.below(2) for _ in range(size)] for size in lengths]
                    lines.append(tuple(cells[0] + [part for more in cells[1:] for part in [3] + more]))
                inspector_ = seen_inspector(k, lines)
                for line in lines:
                    self.is_true(self.check(inspector_, stations(line), sizes(line)))

    def test_the_least_of_the_best(self):
        # With two dots each, the least tuple has its dots as late as can be.
        words = set(itertools.product((0, 1), repeat=3)) - {(0, 0, 0)}
        signs = {(2, 2, 0), (2, 2, 1), (2, 0, 0), (2, 0, 1), (2, 1, 0), (0, 0, 2), (0, 1, 2), (1, 0, 2), (0, 2, 2),
                 (1, 2, 2)}
        told = made(2, words | signs)
        self.assertEqual(best_line(told, (), (5,)), (0, 0, 1, 0, 0))
        self.assertEqual(best_line(told, (), (6,)), (0, 0, 1, 0, 0, 1))
        self.assertEqual(best_line(told, (), (7,)), (0, 0, 1, 0, 0, 1, 0))
        # The first cells of a line with the fewest dots may be greater than those of one with more.
        told = made(1, [(2, 0), (2, 1), (0, 1), (1, 1), (1, 0), (0, 2), (1, 2)])
        self.assertEqual(best_line(told, (), (5,)), (0, 1, 0, 1, 0))
        told = seen_inspector(3, [(0, 1, 1, 1, 1, 1), (1, 0, 0, 0, 0, 1)])
        self.assertEqual(best_line(told, (), (6,)), (1, 0, 0, 0, 0, 1))
        self.assertTrue(passes(told, (0, 1, 1, 1, 1, 1)))

    def test_made_inspectors(self):
        for machine, k in ((EVEN, 4), (EVEN, 7), (chain(2), 15), (ring(3, (1,)), 15)):
            told = inspector(machine, k)
            for word in words_up_to(machine[0], 3):
                for more in (0, 1, 7, 18):
                    lengths = tuple(told[1] + more + at for at in range(len(word) + 1))
                    if (len(word) + sum(lengths)) * 200 > 200000:
                        continue
                    line = best_line(told, word, lengths)
                    self.assertIs(line is not None, lets(machine, word))
                    if line is not None:
                        self.is_true(passes(told, line))
                        self.assertEqual((stations(line), sizes(line)), (word, lengths))
                        self.assertLessEqual(sum(dots_in(line)), sum(dots_in(paint(machine, k, word, lengths))))

    def test_no_signs(self):
        self.assertIsNone(best_line((1, 2, ()), (), (2,)))
        self.assertIsNone(best_line((1, 2, ((0, 0),)), (), (2,)))
        self.assertIsNone(best_line((1, 2, ((0, 0), (2, 0))), (), (2,)))
        self.assertIsNone(best_line((2, 4, ((0, 0, 0), (2, 2, 2))), (), (4,)))
        self.assertEqual(best_line(DARK, (), (2,)), (0, 0))


class Limits(Case):

    def with_parts(self, k, many):
        """An inspector with so many parts, by which the dark line passes."""
        words = {(2,) * (k - at) + (0,) * (at + 1) for at in range(k)} | {(0,) * (k + 1)}
        words |= {word[::-1] for word in words}
        parts = {cells for word in words for cells in (word[:-1], word[1:])}
        for word in itertools.product((0, 1), repeat=k + 1):
            more = parts | {word[:-1], word[1:]}
            if len(more) <= many:
                parts = more
                words.add(word)
        self.assertEqual(len(parts), many)
        return (k, 2 * k, tuple(sorted(words)))

    def test_a_product_of_200000_and_one_more(self):
        told = self.with_parts(9, 200)
        self.assertEqual(best_line(told, (), (1000,)), (0,) * 1000)
        self.refused(TooMany, 200000, best_line, self.with_parts(9, 201), (), (1000,))
        self.assertEqual(best_line(self.with_parts(9, 201), (), (995,)), (0,) * 995)
        self.refused(TooMany, 200000, best_line, self.with_parts(9, 201), (), (996,))
        # 489 * 409 is one more.
        self.refused(TooMany, 200000, best_line, self.with_parts(9, 409), (), (489,))
        self.assertEqual(best_line(self.with_parts(9, 409), (), (488,)), (0,) * 488)
        self.assertIsNone(best_line(self.with_parts(9, 400), (0,), (249, 250)))
        self.refused(TooMany, 200000, best_line, self.with_parts(9, 400), (0,), (250, 250))

    def test_parts_of_words_with_stations_and_signs_count(self):
        # 625 parts, none of which has a plain cell, for lines of 320 cells.
        wide = tuple(itertools.product(range(2, 7), repeat=5))
        self.assertIsNone(best_line((4, 8, wide), (), (320,)))
        self.refused(TooMany, 200000, best_line, (4, 8, wide), (), (321,))
        self.assertIsNone(best_line((4, 8, wide), (0, 3), (100, 118, 100)))
        self.refused(TooMany, 200000, best_line, (4, 8, wide), (0, 3), (100, 119, 100))
        # One part more, in a single word.
        more = wide + ((6, 6, 6, 6, 0),)
        self.refused(TooMany, 200000, best_line, (4, 8, tuple(sorted(more))), (), (320,))

    def test_lines_of_1000_cells_and_1001(self):
        self.assertEqual(best_line(DARK, (), (1000,)), (0,) * 1000)
        self.refused(TooLong, 1001, best_line, DARK, (), (1001,))
        self.assertEqual(best_line(DARK, (0,), (500, 499)), (0,) * 500 + (3,) + (0,) * 499)
        self.refused(TooLong, 1001, best_line, DARK, (0,), (500, 500))
        self.refused(TooLong, 5000 * 3 + 2, best_line, DARK, (0, 0), (5000,) * 3)
        self.assertEqual(best_line(DARK, (0,) * 200, (3,) * 201), ((0, 0, 0, 3) * 201)[:-1])

    def test_lengths_of_m_and_one_less(self):
        told = (1, 4, DARK[2])
        self.assertEqual(best_line(told, (0,), (4, 4)), (0, 0, 0, 0, 3, 0, 0, 0, 0))
        self.refused(Short, 0, best_line, told, (0,), (3, 4))
        self.refused(Short, 1, best_line, told, (0,), (4, 3))
        self.refused(Short, 0, best_line, told, (0,), (0, 0))
        self.refused(Short, 2, best_line, told, (0, 0), (4, 4, 3))
        self.refused(Short, 0, best_line, (1, 5000, DARK[2]), (), (4999,))
        self.refused(TooLong, 5000, best_line, (1, 5000, DARK[2]), (), (5000,))

    def test_the_order_of_what_is_refused(self):
        wide = self.with_parts(9, 400)
        self.refused(Short, 1, best_line, wide, (0,), (1001, 17))
        self.refused(TooLong, 1018, best_line, wide, (), (1018,))
        self.refused(TooMany, 200000, best_line, wide, (), (1000,))
        self.refused(BadLengths, 1, best_line, wide, (0,), (17, 5001))
        self.refused(BadWord, 1, best_line, wide, (0, 4), None)
        self.refused(BadInspector, -1, best_line, nested(20), (0, 4), None)
        for thing, kind, what in WRONG_INSPECTOR:
            self.refused(kind, what, best_line, thing, (4,), (1,))
        for thing, kind, what in WRONG_WORD_OF_4:
            self.refused(kind, what, best_line, DARK, thing, (0,))
        for thing, kind, what in WRONG_LENGTHS_OF_3:
            self.refused(kind, what, best_line, DARK, (0, 0), thing)

    def test_made_inspectors_have_few_enough_parts(self):
        told = inspector(EVEN, 4)
        self.assertEqual(trimmed(EVEN)[1], 2)
        self.assertEqual(best_line(told, (0,), (12, 12)), None)
        self.assertEqual(best_line(told, (), (12,)), (0,) * 12)


if __name__ == "__main__":
    unittest.main()
