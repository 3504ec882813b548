"""[19] and [19.1] Inspectors, and what they see."""

import itertools
import unittest

from tests.common import NO_NUMBERS, NO_TUPLES, WRONG_K, Case, Chances, nested
from undertwo.errors import BadInspector, BadLine
from undertwo.inspectors import first_no, is_inspector, made_inspector, passes, words_of

CHANCES = Chances(1919)
WORDS = tuple(itertools.islice(itertools.product(range(7), repeat=6), 6001))


def some_line(greatest):
    return tuple((0, 0, 1, 3, 4, 5, 6)[CHANCES.below(7)] for _ in range(CHANCES.below(greatest)))


def seen_row(k, line):
    return (2,) * k + line + (2,) * k


def cut(k, line):
    """The words of the line, cut out of the line with k END signs before and behind it."""
    seen = seen_row(k, line)
    words = []
    while len(seen) > k:
        words.append(seen[:k + 1])
        seen = seen[1:]
    return words


class Made(Case):

    def test_good_ones(self):
        for thing in ((1, 2, ()), (60, 120, ()), (60, 5000, ()), (1, 2, ((0, 0), (0, 3), (2, 2), (6, 6))),
                      (1, 5000, tuple(itertools.product(range(7), repeat=2))), (5, 10, WORDS[:6000]),
                      (60, 120, ((0,) * 61, (6,) * 61)), (1, 2, ((3, 3),)), (2, 4, ((2, 2, 2), (2, 2, 3), (3, 2, 2)))):
            self.assertEqual(made_inspector(thing), thing)
            self.is_true(is_inspector(thing))

    def check_wrong(self, thing, what):
        self.refused(BadInspector, what, made_inspector, thing)
        self.is_false(is_inspector(thing))
        self.refused(BadInspector, what, first_no, thing, None)
        self.refused(BadInspector, what, passes, thing, None)

    def test_the_frame(self):
        for thing in NO_TUPLES + ((), (1, 2), (1, 2, (), ()), [1, 2, ()], (0, 2, ()), (61, 122, ()), (True, 2, ()),
                                  ("1", 2, ()), (None, 2, ()), ((1,), 2, ()), (1, True, ()), (1, "2", ()),
                                  (1, None, ()), (1, (2,), ()), (1, 2, None), (1, 2, []), (1, 2, "00"), (1, 2, 0),
                                  (1, 2, [(0, 0)]), (-1, -2, ()), (False, 0, ()), nested(20), (None, None, None),
                                  (10 ** 40, 2 * 10 ** 40, ())):
            self.check_wrong(thing, -1)

    def test_m_of_2k_and_one_less_of_5000_and_5001(self):
        for k in (1, 2, 17, 60):
            for m in (2 * k, 2 * k + 1, 5000):
                self.assertEqual(made_inspector((k, m, ())), (k, m, ()))
            for m in (2 * k - 1, k, 0, -1, 5001, 10 ** 40):
                self.check_wrong((k, m, ()), -1)

    def test_6000_words_and_6001(self):
        self.assertEqual(len(made_inspector((5, 10, WORDS[:6000]))[2]), 6000)
        self.check_wrong((5, 10, WORDS), -1)
        self.check_wrong((5, 10, (None,) * 6001), -1)
        self.check_wrong((5, 10, WORDS[:5999] + (WORDS[5998],)), 5999)

    def test_the_first_wrong_word_is_told(self):
        for words, at in (((None,), 0), (((0, 0), None), 1), (((0,),), 0), (((0, 0, 0),), 0), (((0, 7),), 0),
                          (((0, -1),), 0), (((0, 0), (0, 1), (1, 7)), 2), (((True, 0),), 0), (((0, 0), (0, True)), 1),
                          (((0, False),), 0), ((((0,), 0),), 0), (([0, 0],), 0), (((0, 0), "01"), 1),
                          (((0, 0), (0, "1")), 1), (((0, 0), (0, None)), 1), (((0, 10 ** 40),), 0), ((nested(18),), 0),
                          # Words that do not rise, or stand twice.
                          (((0, 0), (0, 0)), 1), (((0, 3), (0, 0)), 1), (((0, 0), (2, 0), (1, 6), (1, 6)), 2),
                          (((0, 0), (0, 1), (0, 1), (0, 9)), 2), (((0, 0), (0, 1), (0, 9), (0, 1)), 2),
                          (((1, 0), (0, 7)), 1)):
            self.check_wrong((1, 2, words), at)
        # Cells of 6 are stations, those of 7 are none.
        self.assertEqual(made_inspector((1, 2, ((6, 6),)))[2], ((6, 6),))


class Seen(Case):

    def test_words_of_lines(self):
        for _ in range(300):
            line = some_line(30)
            k = 1 + CHANCES.below(8)
            words = cut(k, line)
            self.assertEqual(len(words), len(line) + k)
            self.assertEqual(words_of(k, line), tuple(sorted(set(words))))
            self.tuples_only(words_of(k, line))

    def test_first_no_from_place_to_place(self):
        told = {True: 0, False: 0}
        for _ in range(600):
            line = some_line(12)
            k = 1 + CHANCES.below(3)
            some = {word for word in cut(k, line) if CHANCES.below(20)} | set(cut(k, some_line(12)))
            inspector = (k, 2 * k + CHANCES.below(9), tuple(sorted(some)))
            seen = seen_row(k, line)
            first = None
            for place in range(len(line) + k):
                if seen[place:place + k + 1] not in some:
                    first = place
                    break
            self.assertEqual(first_no(inspector, line), first)
            self.assertIs(passes(inspector, line), first is None)
            told[first is None] += 1
        self.assertGreater(min(told.values()), 100)

    def test_each_place_can_be_the_first_one(self):
        line = (3, 0, 1, 0, 0, 4)
        k = 2
        words = cut(k, line)
        self.assertEqual(len(set(words)), len(words))
        for place, word in enumerate(words):
            inspector = (k, 4, tuple(sorted(set(words) - {word})))
            self.assertEqual(first_no(inspector, line), place)
            self.is_false(passes(inspector, line))
        self.assertIsNone(first_no((k, 4, tuple(sorted(words))), line))
        self.is_true(passes((k, 4, tuple(sorted(words))), line))

    def test_the_empty_line(self):
        for k in (1, 2, 60):
            self.assertEqual(words_of(k, ()), ((2,) * (k + 1),))
            self.assertEqual(first_no((k, 2 * k, ()), ()), 0)
            self.is_true(passes((k, 2 * k, ((2,) * (k + 1),)), ()))
        self.assertEqual(len(cut(60, ())), 60)

    def test_inspectors_without_words_and_with_signs_and_stations_only(self):
        for line in ((), (0,), (3, 1), (0,) * 6000):
            self.assertEqual(first_no((1, 2, ()), line), 0)
            self.is_false(passes((1, 2, ()), line))
        signs = (1, 2, ((2, 2), (2, 3), (3, 2), (3, 3)))
        self.is_true(passes(signs, ()))
        self.is_true(passes(signs, (3,) * 6000))
        self.assertEqual(first_no(signs, (3, 3, 0)), 2)
        self.assertEqual(first_no(signs, (3, 6, 0)), 1)
        self.assertEqual(first_no(signs, (0,)), 0)

    def test_m_is_not_looked_at(self):
        for m in (2, 17, 5000):
            self.is_true(passes((1, m, ((0, 2), (2, 0))), (0,)))
            self.assertEqual(first_no((1, m, ((0, 2), (2, 0))), (0, 0)), 1)

    def test_6000_cells_and_6001(self):
        words = ((0, 0), (0, 2), (2, 0))
        self.assertIsNone(first_no((1, 2, words), (0,) * 6000))
        self.assertEqual(first_no((1, 2, words), (0,) * 5999 + (1,)), 5999)
        self.assertEqual(first_no((1, 2, ((0, 0), (2, 0))), (0,) * 6000), 6000)
        for action in (first_no, passes):
            self.refused(BadLine, -1, action, (1, 2, words), (0,) * 6001)
        self.refused(BadLine, -1, words_of, 1, (0,) * 6001)
        self.assertEqual(len(words_of(60, (0,) * 6000)), 121)

    def test_lines_of_all_four_letters(self):
        self.assertEqual(words_of(1, (6, 5)), ((2, 6), (5, 2), (6, 5)))
        for line, at in (((7,), 0), ((2,), 0), ((0, -1), 1), ((True,), 0), ((0, False), 1), ((0, "1"), 1), ((None,), 0),
                         (((0,),), 0), (([0],), 0)) + tuple((line, -1) for line in NO_TUPLES):
            self.refused(BadLine, at, words_of, 2, line)
            self.refused(BadLine, at, first_no, (1, 2, ()), line)
            self.refused(BadLine, at, passes, (1, 2, ()), line)

    def test_wrong_k(self):
        for k, kind, what in WRONG_K:
            self.refused(kind, what, words_of, k, (0,))
            self.refused(kind, what, words_of, k, None)
        for thing in NO_NUMBERS:
            self.is_false(is_inspector((thing, 2, ())))


if __name__ == "__main__":
    unittest.main()
