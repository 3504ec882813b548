"""[23], [23.1] and [23.2] Lines that are found, and inspectors that are broken."""

import itertools
import unittest
from fractions import Fraction

from tests.common import (EVEN, THIRD, WRONG_INSPECTOR, WRONG_LIMIT, WRONG_MACHINE, WRONG_WORD_OF_4, Case, Chances,
                          all_words, chain, empty_word, let_words, nested, no_words, ring, tail_and_ring,
                          words_up_to)
from tests.test_best import DARK, HALF, seen_inspector
from tests.test_kept import mixed_inspector, plain_kept
from tests.test_knots import in_a_row, made, plain_steps
from undertwo.breaker import broken, find_line
from undertwo.errors import BadInspector, BadLimit, BadMachine, BadWord, TooLong, TooMany
from undertwo.inspectors import passes
from undertwo.kept import kept
from undertwo.knots import thinnest
from undertwo.lines import dots_in, sizes, stations
from undertwo.machines import lets, trimmed
from undertwo.madewords import inspector
from undertwo.prices import law_price, price
from undertwo.leastrooms import least_machine
from undertwo.sure import alike, part_word

CHANCES = Chances(23)


def lengths_of(many, least, total):
    """All tuples of so many numbers from `least` on with this sum."""
    if many == 1:
        return [(total,)] if total >= least else []
    return [(first,) + rest for first in range(least, total + 1) for rest in lengths_of(many - 1, least, total - first)]


def lines_grown(inspector_, word, lengths):
    """All lines with these stations and lengths whose words are allowed, grown cell by cell."""
    k, _, words = inspector_
    allowed = set(words)
    places = [(0, 1)] * lengths[0]
    for letter, size in zip(word, lengths[1:]):
        places += [(3 + letter,)] + [(0, 1)] * size
    rows = [(2,) * k]
    for lot in places + [(2,)] * k:
        rows = [row + (cell,) for row in rows for cell in lot if row[-k:] + (cell,) in allowed]
    return [row[k:-k] for row in rows]


def plain_find(inspector_, word, most):
    """The first line, out of all lines with these stations of up to so many cells."""
    for cells in range(most + 1):
        found = []
        for lengths in lengths_of(len(word) + 1, inspector_[1], cells - len(word)):
            found += lines_grown(inspector_, word, lengths)
        if found:
            return min(found)
    return None


class Find(Case):

    def check(self, inspector_, word, most):
        told = find_line(inspector_, word)
        wanted = plain_find(inspector_, word, most)
        if wanted is not None or told is None or len(told) <= most:
            self.assertEqual(told, wanted, (inspector_, word))
        if told is not None:
            self.tuples_only(told)
            self.is_true(passes(inspector_, told))
            self.assertEqual(stations(told), word)
            self.assertGreaterEqual(min(sizes(told)), inspector_[1])
        return told is not None

    def test_some_inspectors(self):
        found = 0
        for k, letters, plain, other, most, many in ((1, 2, 5, 5, 9, 200), (2, 1, 5, 4, 11, 200), (2, 2, 6, 3, 10, 60),
                                                     (3, 1, 5, 5, 13, 60)):
            for _ in range(many):
                inspector_ = mixed_inspector(k, letters, plain, other)
                for word in words_up_to(letters, 1):
                    found += self.check(inspector_, word, most)
        self.assertGreater(found, 100)

    def test_several_stations_and_longer_stretches(self):
        found = 0
        for _ in range(25):
            k, _, words = mixed_inspector(1, 3, 6, 6)
            for word in ((0, 2), (1, 1), (2, 0)):
                found += self.check((k, 3, words), word, 12)
            found += self.check((k, 6, words), (1,), 14)
            found += self.check((k, 9, words), (), 12)
        self.assertGreater(found, 20)

    def test_longer_lines_than_wanted(self):
        # With gaps of three and of five only, the first line may have more cells than m.
        lines = [(1,) + (0, 0, 1) * 6 + (0, 0, 0, 0, 1) * 4 + (0, 0, 1) * 2,
                 (1,) + (0, 0, 0, 0, 1) * 3 + (0, 0, 1) * 3]
        words = seen_inspector(5, lines)[2]
        more = set()
        for m in range(10, 24):
            told = find_line((5, m, words), ())
            self.assertEqual(told, plain_find((5, m, words), (), m + 5))
            more.add(len(told) - m)
        self.assertGreaterEqual(len(more), 2)

    def test_the_first_in_order(self):
        # Of the same number of cells the least one, whatever its number of dots; lengths may differ.
        words = {(2, 0), (2, 1), (0, 1), (1, 1), (1, 2), (1, 3), (3, 1), (0, 2)}
        told = (1, 2, tuple(sorted(words)))
        self.assertEqual(find_line(told, ()), (0, 1))
        self.assertEqual(find_line(told, (0,)), (0, 1, 3, 1, 1))
        # A line with fewer cells comes first, also if its first cells are greater.
        words = {(2, 2, 1), (2, 1, 1), (1, 1, 2), (1, 2, 2), (2, 2, 0), (2, 0, 0), (0, 0, 0), (0, 0, 1), (0, 1, 1),
                 (1, 1, 1)}
        self.assertEqual(find_line((2, 4, tuple(sorted(words))), ()), (0, 0, 1, 1))
        self.assertEqual(find_line((2, 4, tuple(sorted(words - {(1, 1, 1), (0, 0, 1)}))), ()), None)
        words = {(2, 2, 1), (2, 1, 0), (1, 0, 1), (0, 1, 0), (1, 0, 2), (0, 2, 2), (2, 2, 0), (2, 0, 0), (0, 0, 1),
                 (0, 1, 1), (1, 1, 2), (1, 2, 2), (0, 0, 0)}
        self.assertEqual(find_line((2, 4, tuple(sorted(words - {(0, 0, 0), (1, 0, 2), (1, 1, 2)}))), ()), None)
        self.assertEqual(find_line((2, 5, tuple(sorted(words - {(1, 0, 2)}))), ()), (0, 0, 0, 1, 1))
        self.assertEqual(find_line((2, 5, tuple(sorted(words - {(0, 0, 0)}))), ()), (0, 0, 1, 0, 1, 0))

    def test_no_line(self):
        self.assertIsNone(find_line((1, 2, ()), ()))
        self.assertIsNone(find_line((1, 2, ((0, 0), (0, 3), (3, 0))), ()))
        self.assertIsNone(find_line(HALF, (1,)))
        self.assertIsNone(find_line(HALF, (0, 0, 2)))
        # A way out that is too short for m, and no round.
        words = {(2, 0), (0, 1), (1, 2)}
        self.assertEqual(find_line((1, 2, tuple(sorted(words))), ()), (0, 1))
        self.assertIsNone(find_line((1, 3, tuple(sorted(words))), ()))
        # END signs alone are no way.
        self.assertIsNone(find_line((2, 4, ((2, 2, 2),)), ()))

    def test_made_inspectors(self):
        for machine, k in ((EVEN, 4), (chain(2), 15)):
            told = inspector(machine, k)
            for word in words_up_to(1, 4):
                line = find_line(told, word)
                self.assertIs(line is not None, lets(machine, word))
                if line is not None:
                    self.is_true(passes(told, line))
                    self.assertGreaterEqual(min(sizes(line)), told[1])


class FindLimits(Case):

    def test_lines_of_6000_cells_and_more(self):
        # 17 stretches of 352 cells and 16 stations.
        line = ((0,) * 352 + (3,)) * 16 + (0,) * 352
        self.assertEqual(len(line), 6000)
        self.assertEqual(find_line((1, 352, DARK[2]), (0,) * 16), line)
        self.refused(TooLong, 6001, find_line, (1, 3000, DARK[2]), (0,))
        self.assertEqual(find_line((1, 2999, DARK[2]), (0,)), ((0,) * 2999 + (3,) + (0,) * 2999))
        self.refused(TooLong, 15002, find_line, (1, 5000, DARK[2]), (0, 0))
        self.assertIsNone(find_line((1, 5000, DARK[2]), (0, 1)))
        self.assertEqual(len(find_line((1, 29, DARK[2]), (0,) * 199)), 29 * 200 + 199)

    def test_a_product_of_200000_and_one_more(self):
        def parts(many):
            """An inspector's words with so many parts, by which the dark line passes."""
            words = set(DARK[2])
            words = {(2, 2, 0), (2, 0, 0), (0, 0, 0), (0, 0, 2), (0, 2, 2), (0, 0, 3), (0, 3, 0), (3, 0, 0)}
            found = {cells for word in words for cells in (word[:-1], word[1:])}
            for word in itertools.product(range(2, 7), range(2, 7), (2, 5, 6)):
                if len(found | {word[:-1], word[1:]}) <= many:
                    found |= {word[:-1], word[1:]}
                    words.add(word)
            self.assertEqual(len(found), many)
            return tuple(sorted(words))

        self.assertEqual(5000 * 20 * 2, 200000)
        self.refused(TooLong, 10001, find_line, (2, 5000, parts(20)), (0,))
        self.refused(TooMany, 200000, find_line, (2, 5000, parts(21)), (0,))
        self.assertEqual(find_line((2, 5000, parts(21)), ()), (0,) * 5000)
        self.assertIsNone(find_line((2, 500, parts(20)), (0,) * 18 + (1,)))
        self.refused(TooMany, 200000, find_line, (2, 500, parts(20)), (0,) * 20)
        self.refused(TooMany, 200000, find_line, (2, 501, parts(20)), (0,) * 19)
        # 489 * 409 is one more: 409 stretches are too many letters, so 3 * 163 * 409.
        self.refused(TooMany, 200000, find_line, (3, 409, self.of_163_parts()), (0, 0))
        self.assertEqual(find_line((3, 408, self.of_163_parts()), (0, 0)),
                         (0,) * 408 + (3,) + (0,) * 408 + (3,) + (0,) * 408)

    def of_163_parts(self):
        words = []
        found = set()
        for word in itertools.product(range(7), repeat=4):
            if len(found | {word[:-1], word[1:]}) <= 163:
                found |= {word[:-1], word[1:]}
                words.append(word)
        assert len(found) == 163
        return tuple(words)

    def test_the_order_of_what_is_refused(self):
        wide = (2, 5000, tuple(itertools.product(range(7), repeat=3)))
        self.refused(TooMany, 200000, find_line, wide, ())
        for thing, kind, what in WRONG_WORD_OF_4:
            self.refused(kind, what, find_line, DARK, thing)
            self.refused(kind, what, find_line, wide, thing)
            self.refused(BadInspector, -1, find_line, nested(20), thing)
        for thing, kind, what in WRONG_INSPECTOR:
            self.refused(kind, what, find_line, thing, (4,))
        self.refused(BadWord, -1, find_line, DARK, (0,) * 201)


MACHINES = [EVEN, THIRD, no_words(1), empty_word(1), all_words(1, (0,)), all_words(2, (0, 1)), all_words(2, (1,)),
            chain(1), chain(2), ring(3, (0,)), ring(3, (1, 2)), (1, 2, (0,), (1,), ((0, 0, 1), (1, 0, 1)))]


class Broken(Case):

    def check(self, inspector_, machine, limit):
        told = broken(inspector_, machine, limit)
        letters = machine[0]
        own = kept(inspector_, letters, limit)
        self.assertEqual(own, plain_kept(inspector_, letters, limit))
        word = part_word(own, machine)
        if word is None:
            self.assertIsNone(told)
            self.is_true(alike(own, machine))
            return "kept"
        self.tuples_only(told)
        self.assertIsInstance(told, tuple)
        self.assertEqual(told[1], word)
        short = set(let_words(own, len(word))) ^ set(let_words(machine, len(word)))
        self.assertEqual(short, {other for other in short if len(other) == len(word)})
        self.assertEqual(word, min(short))
        if lets(machine, word):
            self.check_thick(inspector_, limit, told)
        else:
            self.assertEqual(told, ("passes", word, find_line(inspector_, word)))
            self.is_true(passes(inspector_, told[2]))
            self.assertEqual(stations(told[2]), word)
            self.assertGreaterEqual(min(sizes(told[2])), inspector_[1])
        return told[0]

    def check_thick(self, inspector_, limit, told):
        """The fraction and the number, and that no short line is thinner than they say."""
        kind, word, least, many = told
        above = [Fraction(*thin) for thin in thinnest(inspector_) if Fraction(*thin) > Fraction(*limit)]
        wanted = min(above, default=Fraction(1))
        self.assertEqual((kind, least), ("thick", (wanted.numerator, wanted.denominator)))
        self.assertEqual(many, len(plain_steps(inspector_)[1]))
        k = inspector_[0]
        if len(word) > 1:
            return
        for cells in range((len(word) + 1) * k, 11):
            for lengths in lengths_of(len(word) + 1, k, cells - len(word)):
                bounds = [(size - k - many) * wanted for size in lengths]
                if max(bounds) > 0:
                    for line in lines_grown(inspector_, word, lengths):
                        self.assertTrue(any(dots >= bound for dots, bound in zip(dots_in(line), bounds)))

    def test_some_inspectors(self):
        told = {"kept": 0, "passes": 0, "thick": 0}
        for k, letters, plain, other, many in ((1, 1, 6, 6, 40), (1, 2, 6, 5, 20), (2, 1, 5, 5, 25), (2, 2, 5, 3, 10),
                                               (3, 1, 5, 5, 5)):
            for _ in range(many):
                inspector_ = mixed_inspector(k, letters, plain, other)
                for machine in MACHINES:
                    if machine[0] <= letters + 1:
                        limit = ((0, 1), (1, 3), (1, 2), (1, 1))[CHANCES.below(4)]
                        told[self.check(inspector_, machine, limit)] += 1
        self.assertGreater(min(told.values()), 20, told)

    def test_the_fraction_above_the_limit(self):
        turn = made(2, [(0, 0, 0), (0, 1, 0), (1, 0, 1), (1, 1, 1)])
        for limit, least in (((0, 1), (1, 2)), ((1, 3), (1, 2)), ((499, 999), (1, 2)), ((1, 2), (1, 1)),
                             ((3, 4), (1, 1)), ((1, 1), (1, 1))):
            self.assertEqual(broken(turn, empty_word(1), limit), ("thick", (), least, 4))
        self.assertEqual(broken((1, 2, ()), empty_word(1), (0, 1)), ("thick", (), (1, 1), 0))
        # Tuples that steps only lead to, or from, count; those of words with stations and signs do not.
        way = made(2, [(0, 0, 1), (0, 1, 1), (3, 1, 0), (1, 0, 2), (0, 0, 3)])
        self.assertEqual(broken(way, EVEN, (0, 1)), ("thick", (), (1, 1), 3))

    def test_below_the_price_nothing_is_kept(self):
        tried = 0
        for _ in range(60):
            for k, share, other in ((1, 7, 6), (2, 6, 5), (3, 5, 5)):
                inspector_ = mixed_inspector(k, 1, share, other)
                for machine in MACHINES:
                    if machine[0] == 1:
                        above, below = law_price(machine, k)
                        for limit in ((0, 1), (1, 5), (1, 3), (1, 2)):
                            if limit[0] * below < above * limit[1]:
                                self.assertIsNotNone(broken(inspector_, machine, limit))
                                tried += 1
        self.assertGreater(tried, 1000)

    def test_made_inspectors(self):
        for machine, k in ((EVEN, 4), (EVEN, 8), (ring(3, (0,)), 15), (ring(3, (0,)), 17), (chain(2), 16),
                           (chain(3), 30), (ring(5, (1,)), 42), (all_words(2, (0, 1)), 3), (empty_word(2), 2),
                           (no_words(3), 5)):
            small = least_machine(machine)
            told = inspector(small, k)
            rooms = trimmed(small)[1]
            limit = price(k, rooms)
            self.assertEqual(limit, law_price(machine, k))
            self.assertIsNone(broken(told, machine, limit))
            self.assertIsNone(broken(told, machine, (1, 1)))
            if rooms > 1:
                below = (1, limit[1] // limit[0] + 1)
                shown = broken(told, machine, below)
                self.assertEqual(shown[0], "thick")
                self.assertEqual(shown[3], len(plain_steps(told)[1]))
                self.is_true(lets(machine, shown[1]))
                self.assertIsNotNone(broken(told, machine, (0, 1)))

    def test_made_inspectors_of_other_laws(self):
        told = inspector(EVEN, 4)
        kind, word, line = broken(told, chain(2), (1, 4))
        self.assertEqual((kind, word), ("passes", ()))
        self.assertEqual(line, (0,) * 12)
        self.assertEqual(broken(told, ring(2, (1,)), (1, 4))[:2], ("passes", ()))
        self.assertEqual(broken(told, all_words(1, (0,)), (1, 4)), ("thick", (0,), (1, 1), 16))
        self.assertEqual(broken(told, all_words(2, (0, 1)), (0, 1))[:3], ("thick", (0,), (1, 4)))
        kind, word, line = broken(told, (1, 3, (0,), (0,), ((0, 0, 1), (1, 0, 2))), (1, 4))
        self.assertEqual((kind, word, stations(line)), ("passes", (0, 0), (0, 0)))


class BrokenLimits(Case):

    def test_what_find_line_raises(self):
        self.refused(TooLong, 10001, broken, (1, 5000, DARK[2]), EVEN, (0, 1))
        self.assertEqual(broken((1, 2999, DARK[2]), EVEN, (0, 1))[2], (0,) * 2999 + (3,) + (0,) * 2999)
        wide = (1, 5000, tuple(sorted(set(itertools.product(range(7), repeat=2)))))
        self.refused(TooLong, 10001, broken, wide, EVEN, (1, 1))
        words = set(itertools.product(range(7), repeat=3))
        self.refused(TooMany, 200000, broken, (2, 5000, tuple(sorted(words))), EVEN, (1, 1))
        # If the machine lets the word, no line is looked for.
        words = {word for word in words if 2 not in word}
        self.assertEqual(broken((2, 5000, tuple(sorted(words))), EVEN, (1, 1)), ("thick", (), (1, 1), 4))

    def test_what_kept_and_part_word_raise(self):
        round_by_itself = made(6, [word + word[:1] for word in itertools.product((0, 1), repeat=6)])
        self.refused(TooMany, 13, broken, round_by_itself, EVEN, (5, 6))
        self.assertEqual(broken(round_by_itself, EVEN, (2, 3)), ("thick", (), (5, 6), 64))
        # The machine's own least sure machine has too many rooms.
        self.refused(TooMany, 64, broken, DARK, (2, 7, (0,), (6,), tuple(sorted(
            [(0, 0, 0), (0, 1, 0), (0, 0, 1)] + [(at, by, at + 1) for at in range(1, 6) for by in (0, 1)]))), (0, 1))
        chances = Chances(4)
        cells = [chances.below(2) for _ in range(1001)]
        self.refused(TooMany, 1000, broken, in_a_row(cells + cells, 60), EVEN, (0, 1))

    def test_long_words(self):
        # The laws part late, by words longer than either machine has rooms.
        word = broken(DARK, tail_and_ring(38, 2, tuple(range(39))), (0, 1))[1]
        self.assertEqual(word, (0,) * 39)
        self.assertEqual(broken(DARK, chain(38), (0, 1))[:2], ("passes", ()))
        self.refused(TooMany, 41, broken, DARK, chain(39), (0, 1))

    def test_the_order_of_what_is_refused(self):
        self.refused(BadInspector, -1, broken, None, None, None)
        self.refused(BadMachine, -1, broken, DARK, None, None)
        self.refused(BadLimit, 0, broken, DARK, EVEN, None)
        for thing, kind, what in WRONG_INSPECTOR:
            self.refused(kind, what, broken, thing, (), (2, 4))
        for thing, kind, what in WRONG_MACHINE:
            self.refused(kind, what, broken, DARK, thing, (2, 4))
        for thing, kind, what in WRONG_LIMIT:
            self.refused(kind, what, broken, DARK, EVEN, thing)


if __name__ == "__main__":
    unittest.main()
