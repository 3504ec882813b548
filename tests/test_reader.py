"""[7] and [7.1] The reader of views."""

import itertools
import unittest

from tests.common import Case, plain_cells, plain_shared, small_rows
from undertwo.errors import BadView, Shared
from undertwo.maker import thin_rows
from undertwo.reader import find
from undertwo.rows import cells_from


def plain_find(k, rows, view):
    """The first place of the first row, going along the cells for more than a round."""
    for at, row in enumerate(rows):
        for start in range(max(sum(row), 1) + 2):
            if plain_cells(row, start, k) == view:
                return (at, start)
    return None


class Reader(Case):

    def test_all_views_of_small_rows(self):
        pool = small_rows(2, 4) + [(3, 1, 1), (1, 3, 1), (2, 2, 3)]
        for k in (1, 2, 3, 4):
            for rows in itertools.chain([()], itertools.product(pool, repeat=1), itertools.product(pool[::3], repeat=2)):
                both = plain_shared(k, rows)
                for view in itertools.product((0, 1), repeat=k):
                    if both:
                        self.refused(Shared, both[0], find, k, rows, view)
                    else:
                        self.assertEqual(find(k, rows, view), plain_find(k, rows, view), (k, rows, view))

    def test_in_rows_of_the_maker_each_view_tells_kind_and_place(self):
        for k, ts in ((6, (2, 2)), (9, (1, 3, 2)), (15, (1,) * 8), (60, (4,) * 8), (60, (60,))):
            rows = thin_rows(k, ts)
            for at, row in enumerate(rows):
                for start in range(sum(row)):
                    self.assertEqual(find(k, rows, cells_from(row, start, k)), (at, start))

    def test_starts_near_the_end_of_the_round(self):
        self.assertEqual(find(5, ((9, 4, 1),), (1, 1, 0, 0, 0)), (0, 13))
        self.assertEqual(find(5, ((9, 4, 1),), (0, 1, 1, 0, 0)), (0, 12))
        self.assertEqual(find(60, ((99, 50),), plain_cells((99, 50), 148, 60)), (0, 148))

    def test_told_twice_the_first_start_counts(self):
        self.assertEqual(find(3, ((3, 1, 3, 1),), (1, 1, 0)), (0, 3))
        self.assertEqual(find(3, ((2,), (), (1,)), (0, 0, 0)), (1, 0))
        self.assertEqual(find(3, ((2,), (), (1,)), (1, 1, 1)), (2, 0))
        self.assertEqual(find(2, ((5,),), (0, 0)), (0, 1))
        self.tuples_only(find(3, ((2,),), (1, 0, 1)))

    def test_a_view_that_no_row_has(self):
        self.assertIsNone(find(3, ((2,), (3, 1)), (1, 1, 1)))
        self.assertIsNone(find(3, (), (0, 0, 0)))
        self.assertIsNone(find(60, thin_rows(60, (4,) * 8), (1,) * 60))

    def test_rows_that_share_a_view(self):
        self.refused(Shared, 1, find, 3, ((2,), (3, 1), (1, 3)), (1, 1, 1))
        self.refused(Shared, 0, find, 3, ((2,), (3, 1), (2, 2, 3)), (1, 1, 1))
        self.refused(Shared, 0, find, 3, ((), (4,)), (0, 1, 0))
        self.refused(BadView, 0, find, 3, ((), (4,)), (0, 1, 2))


if __name__ == "__main__":
    unittest.main()
