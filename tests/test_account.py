"""[6] to [6.3] Account."""

import itertools
import unittest
from fractions import Fraction
from math import ceil

from tests.common import Case, Chances, dots_between, plain_places, plain_shared, plain_views, small_rows
from undertwo.account import account, middle_row, sides
from undertwo.errors import Blank, Shared, Thin
from undertwo.maker import thin_rows


def gaps_around(row):
    """For each dot of a round the number of cells to the dot before it and to the one behind it."""
    dots = sorted(dots_between(row, -100, sum(row) + 100))
    return [(dots[at] - dots[at - 1], dots[at + 1] - dots[at])
            for at in range(1, len(dots) - 1) if 0 <= dots[at] < sum(row)]


def plain_middle(k, row):
    return any(2 * left > k and 2 * right > k for left, right in gaps_around(row))


def plain_sides(k, row):
    around = gaps_around(row)
    from_left = [left + right - k for left, right in around if 2 * left > k and not 2 * right > k]
    from_right = [left + right - k for left, right in around if 2 * right > k and not 2 * left > k]
    return (max(from_left + [0]), max(from_right + [0]))


def plain_thickness(k, row):
    return ceil(Fraction(2 * sum(row), len(row))) - k


def plain_account(k, rows):
    told = []
    for row in rows:
        places = {at for held in plain_places(k, row) for at in held}
        told.append((plain_thickness(k, row), len(places), "middle" if plain_middle(k, row) else "sides"))
    return tuple(told)


class Middle(Case):

    def test_held_against_gaps_between_dots(self):
        chances = Chances(66)
        pool = small_rows(3, 5) + [chances.row(24, 99), (99,) * 24, (1,) * 24]
        for k in (1, 2, 3, 4, 5, 7, 8, 9, 10, 60):
            for row in pool:
                self.assertEqual(middle_row(k, (row,)), 0 if plain_middle(k, row) else None, (k, row))
                self.assertEqual(sides(k, row), plain_sides(k, row), (k, row))

    def test_more_sides(self):
        chances = Chances(77)
        for _ in range(400):
            row = chances.row(chances.below(6) + 1, 12)
            k = chances.below(12) + 1
            self.assertEqual(sides(k, row), plain_sides(k, row), (k, row))
        # With two dots of a kind the greater one counts, and it may be that none is above 0.
        self.assertEqual(sides(6, (5, 1, 6, 3)), (3, 2))
        self.assertEqual(sides(8, (5, 1)), (0, 0))
        self.assertEqual(sides(60, (99, 1)), (40, 40))

    def test_the_least_index(self):
        rows = ((6, 2), (), (2, 6), (1, 4, 4), (4,))
        self.assertEqual(middle_row(6, rows), 3)
        self.assertEqual(middle_row(6, rows[:3]), None)
        self.assertEqual(middle_row(6, ()), None)
        self.assertEqual(middle_row(6, ((3,), (4, 3), (4, 3, 4))), 2)
        self.assertEqual(middle_row(7, ((3,), (4,))), 1)
        self.assertEqual(sides(3, ()), (0, 0))


class Account(Case):

    def check(self, k, rows):
        told = account(k, rows)
        self.assertEqual(told, plain_account(k, rows), (k, rows))
        self.assertLessEqual(sum(word == "middle" for _, _, word in told), 1)
        for thick, many, word in told:
            self.assertGreaterEqual(many, thick if word == "middle" else 2 * thick)

    def test_rows_of_the_maker(self):
        for k in range(1, 10):
            for many in (1, 2, 3, 4):
                for ts in itertools.product(range(1, k + 1), repeat=many):
                    if 2 * sum(ts) - max(ts) <= k:
                        self.check(k, thin_rows(k, ts))
        self.check(60, thin_rows(60, (4,) * 8))

    def test_other_rows(self):
        for k in (2, 3, 4, 5, 6):
            pool = [row for row in small_rows(3, k)[1:] if 2 * sum(row) > k * len(row)]
            for row in pool:
                self.check(k, (row,))
            some = pool[::7]
            for one, two in itertools.product(some, repeat=2):
                if plain_shared(k, (one, two)) is None:
                    self.check(k, (one, two))

    def test_no_rows(self):
        self.assertEqual(account(3, ()), ())
        self.tuples_only(account(3, ((2,), (3, 1))))

    def test_what_is_refused(self):
        self.refused(Blank, 1, account, 3, ((2,), ()))
        self.refused(Blank, 0, account, 3, ((4,), (5,)))
        self.refused(Blank, 2, account, 3, ((2,), (3, 1), (1, 4), ()))
        self.refused(Shared, 0, account, 3, ((2,), (3, 1), (2, 2, 3)))
        self.refused(Shared, 1, account, 3, ((2,), (3, 1), (1, 3)))
        self.refused(Thin, 0, account, 3, ((1,), (2,)))
        self.refused(Thin, 1, account, 3, ((2,), (1,)))
        # Twice the mean gap is just k: a thickness of 0.
        self.refused(Thin, 0, account, 4, ((2,),))
        self.refused(Thin, 1, account, 4, ((3,), (2,)))

    def test_the_order_of_what_is_refused(self):
        # Row 0 is thin, and rows 0 and 1 share a view, and row 2 has the view without dots.
        self.refused(Blank, 2, account, 3, ((1,), (1,), ()))
        self.refused(Blank, 0, account, 3, ((), ()))
        self.refused(Shared, 1, account, 3, ((1,), (2,), (2, 2)))
        self.refused(Shared, 0, account, 3, ((1,), (1,)))
        self.refused(Thin, 0, account, 4, ((1,), (2,)))

    def test_held_against_plain_refusals(self):
        pool = small_rows(2, 4)
        for rows in itertools.product(pool, repeat=2):
            blanks = [at for at in range(2) if (0,) * 3 in plain_views(3, rows[at])]
            both = plain_shared(3, rows)
            if blanks:
                self.refused(Blank, blanks[0], account, 3, rows)
            elif both:
                self.refused(Shared, both[0], account, 3, rows)
            elif min(plain_thickness(3, row) for row in rows) < 1:
                thin = [at for at in range(2) if plain_thickness(3, rows[at]) < 1]
                self.refused(Thin, thin[0], account, 3, rows)
            else:
                self.check(3, rows)


if __name__ == "__main__":
    unittest.main()
