"""[2] and [2.1] Views."""

import unittest

from tests.common import (WRONG_VIEW_OF_3, Case, Chances, plain_places, plain_views, small_rows)
from undertwo.errors import BadView
from undertwo.views import alone, blank, made_view, owned, views

CHANCES = Chances(22)
SOME = small_rows(3, 5) + [(1,) * 24, (99,) * 24, (99,), (60,), (61,), (59,), (3, 1) * 12, (1, 99), (60, 60)] + [
    CHANCES.row(CHANCES.below(24) + 1, 99) for _ in range(10)]


class Views(Case):

    def check(self, k, row):
        self.assertEqual(views(k, row), plain_views(k, row), (k, row))
        self.assertIs(blank(k, row), (0,) * k in plain_views(k, row), (k, row))
        places = plain_places(k, row)
        spans = tuple((held[0], held[-1]) if held else None for held in places)
        self.assertEqual(owned(k, row), spans, (k, row))
        self.assertEqual(alone(k, row), tuple(sorted({at for held in places for at in held})), (k, row))
        for span, held in zip(spans, places):
            self.assertEqual(held, [] if span is None else list(range(span[0], span[1] + 1)))

    def test_held_against_views_cut_out_of_cells(self):
        for row in SOME:
            for k in (1, 2, 3, 4, 5, 6, 9):
                self.check(k, row)

    def test_wide_views(self):
        for row in SOME[-14:] + [(1,), (2,), (3, 1), (30, 31), (1, 60), (60, 1), (61, 1)]:
            for k in (59, 60):
                self.check(k, row)

    def test_gaps_of_k_and_of_one_more(self):
        for k in (1, 2, 7, 30, 60):
            self.is_false(blank(k, (k,)))
            self.is_true(blank(k, (k + 1,)))
            self.is_true(blank(k, (1, k + 1, 1)))
            self.is_true(blank(k, (99,)))
            self.is_true(blank(k, ()))
            self.is_false(blank(k, (1,) * 24))

    def test_the_dark_row(self):
        for k in (1, 2, 60):
            self.assertEqual((views(k, ()), owned(k, ()), alone(k, ())), (((0,) * k,), (), ()))

    def test_an_entry_for_each_gap_also_of_a_row_told_twice(self):
        self.assertEqual(owned(6, (6, 2) * 12), ((1, 2), (5, 6)) * 12)
        self.assertEqual(owned(6, (2, 6)), ((5, 6), (1, 2)))
        self.assertEqual(views(6, (6, 2) * 12), views(6, (2, 6)))

    def test_only_plain_things_are_returned(self):
        self.tuples_only(views(4, (3, 1)))
        self.tuples_only(owned(4, (3, 1)))
        self.tuples_only(alone(4, (3, 1)))


class Made(Case):

    def test_good_ones_are_returned(self):
        for view in ((0, 0, 0), (1, 1, 1), (0, 1, 0)):
            self.assertEqual(made_view(3, view), view)
        self.assertEqual(made_view(1, (1,)), (1,))
        self.assertEqual(made_view(60, (0, 1) * 30), (0, 1) * 30)

    def test_wrong_ones(self):
        for thing, kind, what in WRONG_VIEW_OF_3:
            self.refused(kind, what, made_view, 3, thing)
        self.refused(BadView, 0, made_view, 60, (0,) * 61)
        self.refused(BadView, 0, made_view, 60, (0,) * 59)
        self.refused(BadView, 0, made_view, 1, (True,))


if __name__ == "__main__":
    unittest.main()
