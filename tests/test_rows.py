"""[1] to [1.3] Rows."""

import unittest
from fractions import Fraction
from math import lcm

from tests.common import (NO_NUMBERS, WRONG_K, WRONG_ROW, WRONG_ROWS, Case, Chances, plain_cells, small_rows)
from undertwo.errors import BadK, BadMany, BadRow, BadStart, NoDots
from undertwo.rows import (cells_from, density, is_row, least_row, made_k, made_row, made_rows, mean, round_of, same,
                           turned)

CHANCES = Chances(11)
LONG = tuple(CHANCES.row(24, 99))
SOME = [(), (1,), (99,), (1,) * 24, (99,) * 24, LONG, (3, 1), (1, 2, 4), (2, 2, 3), (5, 1, 5, 1, 5, 2)] + [
    CHANCES.row(CHANCES.below(24) + 1, 99) for _ in range(12)]


def plain_same(one, two):
    """Whether some shift of the cells of the one gives the cells of the other."""
    if not one or not two:
        return one == two
    many = lcm(sum(one), sum(two))
    cells = plain_cells(two, 0, many)
    return any(plain_cells(one, shift, many) == cells for shift in range(sum(one)))


class Made(Case):

    def test_good_ones_are_returned(self):
        for row in SOME:
            self.assertEqual(made_row(row), row)
            self.is_true(is_row(row))
        for k in range(1, 61):
            self.assertEqual(made_k(k), k)
            self.assertIs(type(made_k(k)), int)
        for rows in ((), ((),), ((3, 1), ()), ((2,),) * 8, (LONG,) * 8, tuple(SOME[:8])):
            self.assertEqual(made_rows(rows), rows)

    def test_wrong_ones(self):
        for thing, kind, what in WRONG_K:
            self.refused(kind, what, made_k, thing)
        for thing, kind, what in WRONG_ROW:
            self.refused(kind, what, made_row, thing)
            self.is_false(is_row(thing))
        for thing, kind, what in WRONG_ROWS:
            self.refused(kind, what, made_rows, thing)

    def test_bounds(self):
        self.refused(BadK, 0, made_k, 0)
        self.refused(BadK, 0, made_k, 61)
        self.refused(BadRow, -1, made_row, (1,) * 25)
        self.refused(BadRow, 23, made_row, (99,) * 23 + (100,))
        self.refused(BadRow, 0, made_row, (0, 100))


class Cells(Case):

    def test_held_against_dots_counted_one_by_one(self):
        for row in SOME + small_rows(3, 4):
            total = max(sum(row), 1)
            for start in (0, 1, total - 1, total, 2 * total + 1):
                self.assertEqual(cells_from(row, start, 150), plain_cells(row, start, 150), (row, start))

    def test_far_starts_are_starts_in_the_first_round(self):
        for row in SOME[1:]:
            for far in (10 ** 30, 10 ** 30 - 1, 10 ** 18 + 7):
                self.assertEqual(cells_from(row, far, 80), plain_cells(row, far % sum(row), 80))
        self.assertEqual(cells_from((), 10 ** 30, 3), (0, 0, 0))

    def test_numbers_of_cells(self):
        for row in SOME:
            self.assertEqual(cells_from(row, 4, 0), ())
            self.assertEqual(cells_from(row, 4, 2000), plain_cells(row, 4, 2000))
            self.tuples_only(cells_from(row, 4, 9))

    def test_wrong_starts_and_numbers(self):
        for start in NO_NUMBERS + (-1, 10 ** 30 + 1, 10 ** 40):
            self.refused(BadStart, 0, cells_from, (3, 1), start, 9)
        for many in NO_NUMBERS + (-1, 2001, 10 ** 40):
            self.refused(BadMany, 0, cells_from, (3, 1), 0, many)


class Measures(Case):

    def test_sums_and_fractions(self):
        for row in SOME + small_rows(3, 5):
            self.assertEqual(round_of(row), sum(row))
            told = density(row)
            self.tuples_only(told)
            many = 1 if not row else sum(row)
            plain = Fraction(sum(plain_cells(row, 5, many)), many)
            self.assertEqual(told, (plain.numerator, plain.denominator))
            if row:
                middle = Fraction(sum(row), len(row))
                self.assertEqual(mean(row), (middle.numerator, middle.denominator))

    def test_the_dark_row(self):
        self.assertEqual((round_of(()), density(()), turned(()), least_row(())), (0, (0, 1), (), ()))
        self.refused(NoDots, 0, mean, ())


class Same(Case):

    def test_turned(self):
        for row in SOME:
            self.assertEqual(turned(row), tuple(row[len(row) - 1 - at] for at in range(len(row))))
            if 0 < sum(row) < 2000:
                # Read backwards from the dot at cell 0, the row is the turned one.
                many = sum(row) + 1
                self.assertEqual(cells_from(turned(row), 0, many), plain_cells(row, 0, many)[::-1])

    def test_same_held_against_shifts_of_cells(self):
        pool = small_rows(4, 2) + small_rows(2, 4)
        for one in pool:
            for two in pool:
                self.assertIs(same(one, two), plain_same(one, two), (one, two))

    def test_least_row_held_against_all_the_same_rows(self):
        pool = small_rows(4, 3)
        for row in pool:
            alike = [other for other in pool if plain_same(row, other)]
            self.assertEqual(least_row(row), min(alike, key=lambda other: (len(other), other)), row)

    def test_told_several_times_and_begun_elsewhere(self):
        for row in [(7, 2, 2), (1, 2, 4), (99, 1), (5,), (2, 3, 2, 4)]:
            for times in range(1, 24 // len(row) + 1):
                for begin in range(len(row)):
                    other = (row[begin:] + row[:begin]) * times
                    self.is_true(same(row, other))
                    self.is_true(same(other, row))
                    self.assertEqual(least_row(other), least_row(row))
                    self.assertEqual((mean(other), density(other)), (mean(row), density(row)))
        self.assertEqual(least_row((7, 2, 2)), (2, 2, 7))
        self.assertEqual(least_row((4,) * 24), (4,))
        self.assertEqual(least_row((3, 1) * 12), (1, 3))
        self.assertEqual(least_row((2, 1, 1) * 8), (1, 1, 2))

    def test_the_dark_row_is_the_same_only_as_itself(self):
        self.is_true(same((), ()))
        for row in SOME[1:]:
            self.is_false(same((), row))
            self.is_false(same(row, ()))


if __name__ == "__main__":
    unittest.main()
