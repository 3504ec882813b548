"""[3] Apart."""

import unittest

from tests.common import Case, Chances, plain_shared, plain_views, small_rows
from undertwo.apart import apart, clear, shared
from undertwo.errors import BadRows


class Apart(Case):

    def check(self, k, rows):
        found = plain_shared(k, rows)
        self.assertEqual(shared(k, rows), found, (k, rows))
        self.assertIs(apart(k, rows), found is None, (k, rows))
        self.assertIs(clear(k, rows), all((0,) * k not in plain_views(k, row) for row in rows), (k, rows))

    def test_all_pairs_of_small_rows(self):
        pool = small_rows(2, 5)
        for k in (1, 2, 3, 4):
            for one in pool:
                for two in pool:
                    self.check(k, (one, two))

    def test_several_rows(self):
        chances = Chances(33)
        pool = small_rows(3, 4)
        for _ in range(300):
            rows = tuple(pool[chances.below(len(pool))] for _ in range(chances.below(5) + 1))
            self.check(chances.below(7) + 1, rows)

    def test_which_pair_is_told(self):
        # Rows 1 and 2 share views, and so do rows 0 and 3: the least first index goes first.
        rows = ((2,), (3, 1), (1, 3), (2, 2))
        self.assertEqual(shared(3, rows), (0, 3, (0, 1, 0)))
        self.assertEqual(shared(3, rows[:3]), (1, 2, (0, 0, 1)))
        self.assertEqual(shared(3, ((2,), (2, 2), (2,))), (0, 1, (0, 1, 0)))

    def test_the_same_row_in_other_words_is_not_apart(self):
        for row in ((3, 1), (5, 2, 2), ()):
            for other in (row, row * 2, row[1:] + row[:1]):
                self.check(6, (row, other))
                self.is_false(apart(6, (row, other)))

    def test_few_rows_and_many(self):
        for k in (1, 60):
            self.assertEqual(shared(k, ()), None)
            self.is_true(apart(k, ()))
            self.is_true(clear(k, ()))
        # With k = 60 rows of one gap up to 60 are told apart by the gaps that are seen.
        eight = tuple((gap,) for gap in range(23, 31))
        self.assertEqual(shared(60, eight), None)
        self.is_true(apart(60, eight))
        self.is_true(clear(60, eight))
        self.check(60, eight[:7] + ((99,) * 24,))
        for action in (shared, apart, clear):
            self.refused(BadRows, -1, action, 60, eight + ((31,),))

    def test_long_rows(self):
        chances = Chances(44)
        long = [chances.row(24, 99) for _ in range(3)]
        self.check(60, tuple(long))
        self.check(60, (long[0], long[1], long[0][5:] + long[0][:5]))
        self.check(9, (long[0], (99,) * 24, ()))

    def test_one_row_is_clear_or_not(self):
        self.is_true(clear(3, ((3,), (2,), (1, 3))))
        self.is_false(clear(3, ((3,), (2,), (1, 4))))
        self.is_false(clear(3, ((4,),)))
        self.tuples_only(shared(3, ((), (4,))))


if __name__ == "__main__":
    unittest.main()
