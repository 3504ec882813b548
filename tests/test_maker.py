"""[5] to [5.2] Maker, and [0.3] (a)."""

import itertools
import unittest
from fractions import Fraction

from tests.common import Case, plain_places, plain_shared, plain_views, small_rows
from undertwo.apart import apart
from undertwo.errors import BadTs, NoFit
from undertwo.maker import intervals, thin_rows
from undertwo.rows import density
from undertwo.thick import fits, least_density, most, thickness


def fitting(greatest_k, many):
    """All k up to that and all thicknesses of this number that fit."""
    for k in range(1, greatest_k + 1):
        for ts in itertools.product(range(1, k + 1), repeat=many):
            if 2 * sum(ts) - max(ts) <= k:
                yield k, ts


class Intervals(Case):

    def check(self, k, ts):
        spans = intervals(k, ts)
        self.assertEqual(len(spans), len(ts))
        middle = [at for at in range(len(ts)) if ts[at] == max(ts)][0]
        next_place = 1
        for at, (first, last) in enumerate(spans):
            if at != middle:
                self.assertEqual((first, last), (next_place, next_place + ts[at] - 1), (k, ts))
                next_place += ts[at]
        self.assertEqual(spans[middle], (next_place, k - next_place + 1), (k, ts))
        rows = tuple((k - next_place + 1,) if at == middle else (k + 1 - spans[at][0], spans[at][1])
                     for at in range(len(ts)))
        self.assertEqual(thin_rows(k, ts), rows, (k, ts))

    def test_all_small_ones(self):
        for many, greatest in ((1, 60), (2, 14), (3, 12), (4, 10)):
            for k, ts in fitting(greatest, many):
                self.check(k, ts)

    def test_middle_first_and_last_and_several_greatest(self):
        self.assertEqual(intervals(12, (5, 1, 2)), ((4, 9), (1, 1), (2, 3)))
        self.assertEqual(intervals(12, (1, 2, 5)), ((1, 1), (2, 3), (4, 9)))
        self.assertEqual(intervals(12, (1, 3, 3)), ((1, 1), (5, 8), (2, 4)))
        self.assertEqual(intervals(15, (3, 3, 3)), ((7, 9), (1, 3), (4, 6)))
        self.assertEqual(thin_rows(12, (1, 2, 5)), ((12, 1), (11, 3), (9,)))
        self.assertEqual(thin_rows(12, (1, 3, 3)), ((12, 1), (8,), (11, 4)))
        self.check(60, (4,) * 8)
        self.check(15, (1,) * 8)

    def test_that_just_fit_and_that_just_do_not(self):
        for k, ts in fitting(9, 3):
            for at in range(3):
                more = ts[:at] + (ts[at] + 1,) + ts[at + 1:]
                missing = 2 * sum(more) - max(more) - k
                if missing > 0:
                    self.refused(NoFit, missing, intervals, k, more)
                    self.refused(NoFit, missing, thin_rows, k, more)
        self.assertEqual(intervals(60, (60,)), ((1, 60),))
        self.assertEqual(thin_rows(1, (1,)), ((1,),))
        for action in (intervals, thin_rows):
            self.refused(NoFit, 1, action, 59, (60,))
            self.refused(NoFit, 1, action, 14, (1,) * 8)
            self.refused(NoFit, 15 * 60 - 1, action, 1, (60,) * 8)
            self.refused(BadTs, 2, action, 1, (60, 60, 61))


class Rows(Case):

    def check(self, k, ts):
        rows = thin_rows(k, ts)
        middle = ts.index(max(ts))
        self.assertIsNone(plain_shared(k, rows), (k, ts))
        for at, row in enumerate(rows):
            cut = plain_views(k, row)
            self.assertTrue(all(1 <= sum(view) <= 2 for view in cut), (k, ts, row))
            # Each view stands once in a round.
            self.assertEqual(len(cut), sum(row), (k, ts, row))
            if at == middle:
                self.assertGreaterEqual(thickness(k, row), ts[at])
            else:
                self.assertEqual(thickness(k, row), ts[at])

    def test_what_is_promised_of_them(self):
        for many, greatest in ((1, 12), (2, 9), (3, 9), (4, 9)):
            for k, ts in fitting(greatest, many):
                self.check(k, ts)
        self.check(60, (4,) * 8)
        self.check(60, (10, 20, 5, 5))
        self.tuples_only(thin_rows(6, (2, 2)))

    def test_rows_apart_have_thicknesses_that_fit(self):
        for k in (2, 3, 4, 5):
            pool = [row for row in small_rows(3, k)[1:] if 2 * sum(row) > k * len(row)]
            views = {row: set(plain_views(k, row)) for row in pool}
            kinds = {}
            for row in pool:
                kinds.setdefault(frozenset(views[row]), row)
            pool = list(kinds.values())
            for one, two in itertools.combinations(pool, 2):
                if not views[one] & views[two]:
                    self.is_true(apart(k, (one, two)))
                    self.is_true(fits(k, (thickness(k, one), thickness(k, two))))
                    for three in pool:
                        if not views[three] & (views[one] | views[two]):
                            ts = tuple(thickness(k, row) for row in (one, two, three))
                            self.is_true(fits(k, ts))

    def test_so_many_kinds_cost_just_so_much(self):
        for k in (5, 15, 22, 60):
            for many in range(1, 9):
                if 2 * many - 1 <= k:
                    rows = thin_rows(k, (most(k, many),) * many)
                    densest = max(Fraction(*density(row)) for row in rows)
                    self.assertEqual((densest.numerator, densest.denominator), least_density(k, many))

    def test_places_belong_to_one_row(self):
        for k, ts in fitting(8, 3):
            places = [{at for held in plain_places(k, row) for at in held} for row in thin_rows(k, ts)]
            for one, two in itertools.combinations(places, 2):
                self.assertFalse(one & two)


if __name__ == "__main__":
    unittest.main()
