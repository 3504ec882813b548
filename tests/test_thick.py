"""[4] to [4.4] Thickness."""

import itertools
import unittest
from fractions import Fraction
from math import ceil

from tests.common import NO_NUMBERS, WRONG_TS, Case, Chances, small_rows
from undertwo.errors import BadMany, BadTs, NoDots
from undertwo.thick import edge, fits, least_density, made_ts, most, spare, thickness


def plain_fits(k, ts):
    return 2 * sum(ts) - max(ts) <= k


class Thickness(Case):

    def test_held_against_fractions(self):
        chances = Chances(55)
        pool = small_rows(3, 5)[1:] + [chances.row(24, 99) for _ in range(5)] + [(99,) * 24, (1,) * 24, (99,), (1,)]
        for row in pool:
            for k in (1, 2, 3, 5, 6, 30, 59, 60):
                told = thickness(k, row)
                self.assertEqual(told, ceil(2 * Fraction(sum(row), len(row))) - k)
                self.assertIs(type(told), int)
                self.assertIs(told >= 1, Fraction(sum(row), len(row)) > Fraction(k, 2))

    def test_below_nothing(self):
        self.assertEqual((thickness(60, (1,)), thickness(60, (99,)), thickness(1, (99,))), (-58, 138, 197))

    def test_no_dots(self):
        for k in (1, 60):
            self.refused(NoDots, 0, thickness, k, ())


class Ts(Case):

    def test_good_ones(self):
        for ts in ((1,), (60,), (1,) * 8, (60,) * 8, (1, 60, 2)):
            self.assertEqual(made_ts(ts), ts)

    def test_wrong_ones(self):
        for thing, kind, what in WRONG_TS:
            self.refused(kind, what, made_ts, thing)
        self.refused(BadTs, 7, made_ts, (60,) * 7 + (61,))
        self.refused(BadTs, -1, made_ts, (60,) * 9)

    def test_spare_and_fits(self):
        for k in (1, 2, 7, 20, 60):
            for ts in itertools.chain(itertools.product(range(1, 8), repeat=2), itertools.product((1, 3, 20, 60), repeat=3),
                                      [(1,) * 8, (60,) * 8, (60,), (1,)]):
                self.assertEqual(spare(k, ts), k + max(ts) - 2 * sum(ts))
                self.assertIs(fits(k, ts), plain_fits(k, ts), (k, ts))
        self.assertEqual((spare(60, (60,)), spare(59, (60,)), spare(15, (1,) * 8), spare(14, (1,) * 8)), (0, -1, 0, -1))
        self.is_true(fits(15, (1,) * 8))
        self.is_false(fits(14, (1,) * 8))


class Most(Case):

    def test_most_is_the_greatest_that_fits_so_often(self):
        for k in range(1, 61):
            for many in range(1, 31):
                told = most(k, many)
                self.is_true(told == 0 or plain_fits(k, (told,) * many))
                self.is_false(plain_fits(k, (told + 1,) * many))
                plain = Fraction(2, k + told)
                self.assertEqual(least_density(k, many),
                                 None if told == 0 else (plain.numerator, plain.denominator))

    def test_bounds(self):
        for action in (most, least_density):
            for many in NO_NUMBERS + (0, 31, -1, 10 ** 40):
                self.refused(BadMany, 0, action, 60, many)
        self.assertEqual((most(60, 1), most(60, 30), most(58, 30), most(59, 30)), (60, 1, 0, 1))
        self.assertEqual((least_density(60, 1), least_density(60, 30), least_density(58, 30)),
                         ((1, 60), (2, 61), None))


class Edge(Case):

    def plain_edge(self, k, many):
        found = []
        for ts in itertools.product(range(1, k + 1), repeat=many):
            if list(ts) == sorted(ts, reverse=True) and plain_fits(k, ts):
                greater = [ts[:at] + (ts[at] + 1,) + ts[at + 1:] for at in range(many)]
                if not any(plain_fits(k, other) for other in greater):
                    found.append(ts)
        return tuple(found)

    def test_held_against_all_tuples(self):
        for many, greatest in ((1, 60), (2, 40), (3, 17), (4, 12)):
            for k in range(1, greatest + 1):
                self.assertEqual(edge(k, many), self.plain_edge(k, many), (k, many))
        self.assertEqual(edge(60, 2), self.plain_edge(60, 2))

    def test_equal_numbers_are_let(self):
        self.assertEqual(edge(3, 2), ((1, 1),))
        self.assertEqual(edge(7, 4), ((1, 1, 1, 1),))
        self.assertEqual(edge(6, 4), ())
        self.assertIn((12, 12, 12), edge(60, 3))

    def test_wide_views_and_bounds(self):
        for many in range(1, 5):
            told = edge(60, many)
            self.assertEqual(list(told), sorted(set(told)))
            self.tuples_only(told)
        self.assertEqual(edge(60, 1), ((60,),))
        pairs = ((two, three) for two in range(1, 21) for three in range(1, two + 1))
        fours = ((60 - 2 * (two + three + last), two, three, last) for two, three in pairs for last in range(1, three + 1))
        self.assertEqual(edge(60, 4), tuple(sorted(ts for ts in fours if ts[0] >= ts[1])))
        for many in NO_NUMBERS + (0, 5, -1, 10 ** 40):
            self.refused(BadMany, 0, edge, 60, many)


if __name__ == "__main__":
    unittest.main()
