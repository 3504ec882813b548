"""[21], [21.1] and [21.2] Limits, and what an inspector keeps."""

import itertools
import unittest
from fractions import Fraction

from tests.common import (EVEN, NO_NUMBERS, WRONG_INSPECTOR, WRONG_LIMIT, Case, Chances, all_words, chain, empty_word,
                          let_words, nested, no_words, ring)
from tests.test_knots import in_a_row, made
from undertwo.best import best_line
from undertwo.errors import BadInspector, BadLimit, BadMany, TooMany
from undertwo.inspectors import passes
from undertwo.kept import kept, made_limit
from undertwo.knots import knots, thinnest
from undertwo.leastrooms import least_machine
from undertwo.lines import dots_in
from undertwo.machines import trimmed
from undertwo.madewords import inspector
from undertwo.prices import price
from undertwo.sure import alike, within

CHANCES = Chances(21)
EVERY = (1, 2, ((0, 0), (0, 2), (0, 3), (2, 0), (3, 0)))


def mixed_inspector(k, letters, plain, other):
    """Each word of plain cells with a chance of `plain` in ten, each one with one station, or with END signs at one
    end, with a chance of `other` in ten."""
    words = set()
    for word in itertools.product(range(3 + letters), repeat=k + 1):
        stations = [cell for cell in word if cell > 2]
        if max(word) <= 1:
            if CHANCES.below(10) < plain:
                words.add(word)
        elif len(stations) + word.count(2) <= k and CHANCES.below(10) < other:
            words.add(word)
    return made(k, words)


def grown(inspector_, firsts, cells, goals):
    """Whether a row of cells that begins with one of the firsts goes on by the cells, so many of each as may be, and
    ends with one of the goals. The cells are told as lots: any number of the first lot, then just one of the second
    lot, then any number of the third and so on."""
    k, _, words = inspector_
    rows = [(row, 0) for row in firsts]
    seen = {(row[-k:], at) for row, at in rows}
    while rows:
        row, at = rows.pop()
        if at == len(cells) - 1 and row[-k:] in goals:
            return True
        steps = [(cell, at) for cell in cells[at]]
        if at + 2 < len(cells):
            steps += [(cell, at + 2) for cell in cells[at + 1]]
        for cell, later in steps:
            longer = row + (cell,)
            if longer[-k - 1:] in words and (longer[-k:], later) not in seen:
                seen.add((longer[-k:], later))
                rows.append((longer, later))
    return False


def thin_ones(inspector_, limit):
    return [set(knot) for knot, thin in zip(knots(inspector_), thinnest(inspector_))
            if Fraction(*thin) <= Fraction(*limit)]


def plain_kept(inspector_, letters, limit):
    """The machine, by rows of cells that are grown cell by cell."""
    k = inspector_[0]
    thin = thin_ones(inspector_, limit)
    signs = (2,) * k
    starts = [at for at, knot in enumerate(thin) if grown(inspector_, [signs], [(0, 1)], knot)]
    ends = [at for at, knot in enumerate(thin) if grown(inspector_, knot, [(0, 1), (2,), (2,)], {signs})]
    moves = [(one, letter, two) for one in range(len(thin)) for letter in range(letters) for two in range(len(thin))
             if grown(inspector_, thin[one], [(0, 1), (3 + letter,), (0, 1)], thin[two])]
    return (letters, len(thin), tuple(starts), tuple(ends), tuple(moves))


class Kept(Case):

    def check(self, inspector_, letters, limit):
        told = kept(inspector_, letters, limit)
        self.assertEqual(told, plain_kept(inspector_, letters, limit), (inspector_, letters, limit))
        self.tuples_only(told)
        return told

    def test_all_inspectors_of_one_cell_and_one_letter(self):
        every = [word for word in itertools.product(range(4), repeat=2) if word not in ((2, 2), (3, 3), (2, 3), (3, 2))]
        for chosen in range(0, 2 ** len(every), 7):
            inspector_ = made(1, [word for at, word in enumerate(every) if chosen >> at & 1])
            for limit in ((0, 1), (1, 2), (1, 1)):
                self.check(inspector_, 1, limit)

    def test_some_inspectors(self):
        kinds = set()
        for k, letters, plain, other, many in ((1, 2, 6, 4, 60), (2, 1, 5, 5, 80), (2, 2, 5, 3, 60), (3, 1, 4, 5, 40),
                                               (3, 2, 5, 2, 20), (4, 1, 4, 2, 10)):
            for _ in range(many):
                inspector_ = mixed_inspector(k, letters, plain, other)
                for limit in ((0, 1), (1, 3), (1, 2), (1, 1)):
                    told = self.check(inspector_, letters, limit)
                    kinds.add((told[1], len(told[2]), len(told[3]), len(told[4])))
                self.check(inspector_, 1 if letters > 1 else 4, (1, 1))
        self.assertGreater(len(kinds), 30)

    def test_the_rooms_are_the_thin_knots_in_their_order(self):
        turn = made(2, [(0, 0, 0), (0, 1, 0), (1, 0, 1), (1, 1, 1), (2, 0, 1), (2, 2, 0), (2, 2, 1), (2, 1, 1)])
        self.assertEqual(thinnest(turn), ((0, 1), (1, 2), (1, 1)))
        for limit, rooms, starts in (((0, 1), 1, ()), ((1, 3), 1, ()), ((499, 999), 1, ()), ((1, 2), 2, (1,)),
                                     ((500, 999), 2, (1,)), ((999, 1000), 2, (1,)), ((1, 1), 3, (1, 2))):
            self.assertEqual(kept(turn, 1, limit), (1, rooms, starts, (), ()), limit)

    def test_rows_may_pass_other_tuples(self):
        # From the signs and to them, and from room to room, through tuples that are in no thin knot.
        words = {(2, 2, 1), (2, 1, 1), (1, 1, 1), (1, 1, 0), (1, 0, 0), (0, 0, 0), (0, 0, 1), (0, 1, 1), (1, 1, 3),
                 (1, 3, 1), (3, 1, 1), (1, 1, 2), (1, 2, 2)}
        self.assertEqual(kept(made(2, words), 1, (0, 1)), (1, 1, (0,), (0,), ((0, 0, 0),)))
        words -= {(1, 1, 1)}
        self.assertEqual(kept(made(2, words), 1, (0, 1)), (1, 1, (0,), (0,), ((0, 0, 0),)))
        for word, told in (((2, 1, 1), ((), (0,), ((0, 0, 0),))), ((1, 2, 2), ((0,), (), ((0, 0, 0),))),
                           ((1, 3, 1), ((0,), (0,), ())), ((3, 1, 1), ((0,), (0,), ()))):
            self.assertEqual(kept(made(2, words - {word}), 1, (0, 1))[2:], told)

    def test_one_station_and_no_sign(self):
        # Two stations in a view, signs beside a station, and signs at once behind signs make no move.
        words = {(0, 0, 0), (0, 0, 3), (0, 3, 4), (3, 4, 0), (4, 0, 0), (0, 0, 2), (0, 2, 0), (2, 0, 0), (2, 2, 2)}
        self.assertEqual(kept(made(2, words), 2, (1, 1)), (2, 1, (), (), ()))
        self.assertEqual(kept(made(2, words | {(2, 2, 0)}), 2, (1, 1)), (2, 1, (0,), (), ()))
        self.assertEqual(kept(made(2, words | {(0, 2, 2)}), 2, (1, 1)), (2, 1, (), (0,), ()))
        self.assertEqual(kept(made(2, words | {(0, 3, 0), (3, 0, 0)}), 2, (1, 1)), (2, 1, (), (), ((0, 0, 0),)))
        self.assertEqual(kept(made(2, {(2, 2, 2)}), 1, (1, 1)), (1, 0, (), (), ()))

    def test_letters(self):
        words = {(0, 0), (0, 2), (2, 0)} | {word for e in range(4) for word in ((0, 3 + e), (3 + e, 0))}
        for letters in (1, 2, 3, 4):
            self.assertEqual(kept(made(1, words), letters, (0, 1)), all_words(letters, range(letters)))
        self.assertEqual(kept(EVERY, 3, (0, 1)), all_words(3, (0,)))

    def test_m_plays_no_part(self):
        for m in (2, 3, 5000):
            self.assertEqual(kept((1, m, EVERY[2]), 1, (0, 1)), kept(EVERY, 1, (0, 1)))

    def test_made_inspectors(self):
        for machine, k in ((EVEN, 4), (EVEN, 9), (ring(3, (0,)), 15), (ring(3, (1, 2)), 21), (chain(3), 30),
                           (ring(5, (1,)), 42), (all_words(2, (0, 1)), 3), (empty_word(2), 2), (no_words(3), 5)):
            rooms = trimmed(machine)[1]
            limit = price(k, rooms)
            told = kept(inspector(machine, k), machine[0], limit)
            self.is_true(alike(told, machine))
            self.assertEqual(told[1], rooms)
            self.is_true(alike(kept(inspector(machine, k), machine[0], (1, 1)), machine))
            if rooms > 1:
                thinner = Fraction(*limit).limit_denominator(1000) - Fraction(1, 900)
                thinner = thinner.limit_denominator(1000)
                less = kept(inspector(machine, k), machine[0], (thinner.numerator, thinner.denominator))
                self.is_true(within(less, machine))
                self.is_false(alike(less, machine))
        # The least machine of a law keeps it at the least price.
        doubled = (1, 4, (0,), (0, 2), ((0, 0, 1), (1, 0, 2), (2, 0, 3), (3, 0, 0)))
        self.is_true(alike(kept(inspector(least_machine(doubled), 4), 1, price(4, 2)), EVEN))

    def test_the_words_are_those_with_long_thin_lines(self):
        # For each length there is a passing line with at most limit * H dots and the constant, if K lets the word.
        tried = 0
        for _ in range(30):
            inspector_ = mixed_inspector(2, 1, 5, 6)
            for limit in ((0, 1), (1, 3), (1, 2)):
                let = let_words(kept(inspector_, 1, limit), 2)
                for word in ((), (0,), (0, 0)):
                    # Twice as long stretches: with thin rounds the dots above the limit do not grow.
                    short, long = [self.most_above(inspector_, word, size, limit) for size in (60, 120)]
                    if word in let:
                        self.assertIsNotNone(short)
                        self.assertIsNotNone(long)
                        self.assertLessEqual(long, 8 * (len(word) + 1))
                        tried += 1
                    elif long is not None and word == ():
                        # Of several stretches one may be thinner than the limit, and another one thicker.
                        self.assertGreater(long, short)
        self.assertGreater(tried, 10)

    def most_above(self, inspector_, word, size, limit):
        """How many dots the best line of stretches of about this size has above the limit; None for no line.
        Sizes are tried up to a round more, as not each size may be had."""
        found = []
        for more in range(6):
            line = best_line(inspector_, word, (size + more,) * (len(word) + 1))
            if line is not None:
                self.is_true(passes(inspector_, line))
                found.append(sum(dots_in(line)) - Fraction(*limit) * (size + more) * (len(word) + 1))
        return min(found, default=None)


class Limits(Case):

    def test_made_limit(self):
        for limit in ((0, 1), (1, 1), (1, 2), (1, 1000), (999, 1000), (2, 3), (333, 1000)):
            self.assertEqual(made_limit(limit), limit)
            self.tuples_only(made_limit(limit))
        for thing, kind, what in WRONG_LIMIT:
            self.refused(kind, what, made_limit, thing)
        self.refused(BadLimit, 0, made_limit, (1, 1001))
        self.refused(BadLimit, 0, made_limit, (1000, 1001))

    def test_all_small_pairs(self):
        for above, below in itertools.product(range(-2, 14), repeat=2):
            lowest = Fraction(above, below) if below else None
            right = below > 0 and 0 <= above <= below and (lowest.numerator, lowest.denominator) == (above, below)
            if right:
                self.assertEqual(made_limit((above, below)), (above, below))
            else:
                self.refused(BadLimit, 0, made_limit, (above, below))

    def test_12_thin_knots_and_13(self):
        # Each view goes round by itself: a knot for each necklace of six cells, 1, 1, 3, 4, 3, 1, 1 by their dots.
        round_by_itself = made(6, [word + word[:1] for word in itertools.product((0, 1), repeat=6)])
        self.assertEqual(len(knots(round_by_itself)), 14)
        self.assertEqual(kept(round_by_itself, 1, (1, 2))[1], 9)
        self.assertEqual(kept(round_by_itself, 1, (2, 3)), (1, 12, (), (), ()))
        self.assertEqual(kept(round_by_itself, 1, (832, 999))[1], 12)
        self.refused(TooMany, 13, kept, round_by_itself, 1, (5, 6))
        self.refused(TooMany, 13, kept, round_by_itself, 1, (999, 1000))
        self.refused(TooMany, 14, kept, round_by_itself, 1, (1, 1))

    def test_1000_tuples_and_1001(self):
        chances = Chances(4)
        for many in (1000, 1001):
            cells = [chances.below(2) for _ in range(many)]
            told = in_a_row(cells + cells, 60)
            if many == 1000:
                self.assertEqual(kept(told, 2, (1, 1)), (2, 1, (), (), ()))
                self.assertEqual(kept(told, 2, (0, 1)), (2, 0, (), (), ()))
            else:
                self.refused(TooMany, 1000, kept, told, 2, (0, 1))

    def test_the_order_of_what_is_refused(self):
        chances = Chances(4)
        cells = [chances.below(2) for _ in range(1001)]
        wide = in_a_row(cells + cells, 60)
        for letters in NO_NUMBERS + (0, 5, -1):
            self.refused(BadMany, 0, kept, EVERY, letters, None)
            self.refused(BadMany, 0, kept, wide, letters, None)
            self.refused(BadInspector, -1, kept, nested(20), letters, None)
        for thing, _, _ in WRONG_LIMIT:
            self.refused(BadLimit, 0, kept, EVERY, 1, thing)
            self.refused(BadLimit, 0, kept, wide, 4, thing)
            self.refused(BadMany, 0, kept, wide, 5, thing)
        for thing, kind, what in WRONG_INSPECTOR:
            self.refused(kind, what, kept, thing, 0, (2, 2))


if __name__ == "__main__":
    unittest.main()
