"""[20.2], [20.3] and [20.4] Thinnest rounds, and the judge of rows."""

import itertools
import unittest
from fractions import Fraction

from tests.common import EVEN, Case, Chances, nested, plain_views, ring, small_rows
from tests.test_knots import CHANCES, in_a_row, made, plain_knots, plain_steps, plain_thinnest, some_inspector
from undertwo.errors import BadInspector, BadKnot, TooMany, Wide
from undertwo.knots import knots, thinnest
from undertwo.madewords import inspector
from undertwo.plans import plan
from undertwo.rounds import round_right, thin_round
from undertwo.rows import density, is_row, least_row, same

FREE = (2, 4, ((0, 0, 1), (0, 1, 0), (0, 1, 1), (1, 0, 0), (1, 0, 1), (1, 1, 0), (1, 1, 1)))
TURN = (2, 4, ((0, 0, 0), (0, 1, 0), (1, 0, 1), (1, 1, 1)))


def plain_heights(steps, knot, thin):
    """The least cost of all walks with fewer steps than the knot has tuples, step by step; no step is left out."""
    heights = {cells: Fraction(0) for cells in knot}
    walks = dict(heights)
    for _ in knot:
        longer = {}
        for one, two in steps:
            if one in walks:
                cost = walks[one] + two[-1] - thin
                longer[two] = min(cost, longer.get(two, cost))
        walks = longer
        heights = {cells: min(heights[cells], walks.get(cells, heights[cells])) for cells in knot}
    return heights


def plain_round(inspector_, at):
    """The row of the thinnest round, as [20.2] tells it, with fractions; its gaps may be too many."""
    knot = plain_knots(inspector_)[at]
    thin = Fraction(*plain_thinnest(inspector_)[at]) if len(knot) < 12 else Fraction(*thinnest(inspector_)[at])
    steps = [(one, two) for one, two in plain_steps(inspector_)[0] if one in knot and two in knot]
    heights = plain_heights(steps, knot, thin)
    tight = {(one, two) for one, two in steps if heights[two] == heights[one] + two[-1] - thin}
    left = set(knot)
    while any(not any((one, two) in tight for two in left) for one in left):
        left -= {one for one in left if not any((one, two) in tight for two in left)}
    walk = [min(left)]
    while walk[-1] not in walk[:-1]:
        goals = sorted((two[-1], two) for two in left if (walk[-1], two) in tight)
        walk.append(goals[0][1])
    cells = [two[-1] for two in walk[walk.index(walk[-1]) + 1:]]
    assert Fraction(sum(cells), len(cells)) == thin
    return row_of(cells)


def row_of(cells):
    """The least row of cells that come again and again, by all turns of its gaps."""
    dots = [at for at, cell in enumerate(cells * 2) if cell][:sum(cells) + 1]
    gaps = tuple(two - one for one, two in zip(dots, dots[1:]))
    return min((gaps[turn:] + gaps[:turn] for turn in range(len(gaps))), default=())


def plain_right(inspector_, knot, row):
    """The judge, by cutting the row into cells."""
    k, _, words = inspector_
    if row:
        seen, long, dots = plain_views(k, row), plain_views(k + 1, row), Fraction(len(row), sum(row))
    else:
        seen, long, dots = ((0,) * k,), ((0,) * (k + 1),), Fraction(0)
    return set(long) <= set(words) and set(seen) <= set(knots(inspector_)[knot]) and dots == Fraction(
        *thinnest(inspector_)[knot])


class Rounds(Case):

    def check(self, inspector_):
        for at in range(len(knots(inspector_))):
            wanted = plain_round(inspector_, at)
            if len(wanted) > 24:
                self.refused(Wide, 0, thin_round, inspector_, at)
                continue
            told = thin_round(inspector_, at)
            self.assertEqual(told, wanted, inspector_)
            self.tuples_only(told)
            self.is_true(is_row(told))
            self.assertEqual(least_row(told), told)
            self.assertEqual(density(told), thinnest(inspector_)[at])
            self.is_true(round_right(inspector_, at, told))

    def test_all_inspectors_of_one_and_two_cells(self):
        for k in (1, 2):
            every = list(itertools.product((0, 1), repeat=k + 1))
            for chosen in itertools.product((0, 1), repeat=len(every)):
                self.check(made(k, [word for word, put in zip(every, chosen) if put]))

    def test_some_inspectors_of_more_cells(self):
        for k, share, many in ((3, 5, 120), (3, 8, 60), (4, 5, 100), (4, 7, 40), (5, 5, 50), (6, 5, 20)):
            for _ in range(many):
                self.check(some_inspector(k, share))

    def test_several_thinnest_rounds(self):
        # Two rounds of a third, with tuples in common: the walk from the least tuple decides.
        both = made(4, set(in_a_row((0, 0, 1) * 4, 4)[2]) | set(in_a_row((0, 0, 0, 1, 0, 1) * 3, 4)[2])
                    | set(in_a_row((0, 0, 1) * 3 + (0, 0, 0, 1, 0, 1) * 2 + (0, 0, 1) * 3, 4)[2]))
        self.check(both)
        self.assertEqual(thin_round(both, 0), plain_round(both, 0))
        thin = (6, 12, tuple(word for word in itertools.product((0, 1), repeat=7) if sum(word) >= 3))
        self.assertEqual(thin_round(thin, 0), (1, 1, 5))
        self.check(thin)

    def test_tuples_that_lead_into_a_round_are_no_part_of_it(self):
        # From 001 on the way goes to the round of 1 and 0, thinner than the one that comes back to 001.
        cells = (0, 0, 1, 0, 1, 0, 1, 1, 0, 0, 1, 0, 1)
        self.check(in_a_row(cells, 3))
        self.check(in_a_row(cells, 4))
        for _ in range(40):
            self.check(in_a_row([CHANCES.below(2) for _ in range(30)], 4))

    def test_made_inspectors(self):
        for machine, k in ((EVEN, 4), (EVEN, 7), (ring(3, (0,)), 15), (ring(4, (0,)), 30), (ring(5, (1,)), 42)):
            told = inspector(machine, k)
            found = [thin_round(told, at) for at in range(len(knots(told)))]
            wanted = [()] + [(two,) if kind == "middle" else (two, one) for kind, one, two in plan(k, machine[1])]
            self.assertEqual(sorted(found), sorted(least_row(row) for row in wanted))

    def test_rounds_without_dots(self):
        for k in (1, 2, 9, 60):
            self.assertEqual(thin_round(made(k, [(0,) * (k + 1)]), 0), ())
            self.is_true(round_right(made(k, [(0,) * (k + 1)]), 0, ()))
        self.assertEqual((thin_round(TURN, 0), thin_round(TURN, 1), thin_round(TURN, 2)), ((), (2,), (1,)))


class Judge(Case):

    def test_all_small_rows(self):
        some = [FREE, TURN] + [some_inspector(k, share) for k, share in ((1, 7), (2, 7), (3, 6), (3, 8), (4, 7))
                               for _ in range(6)]
        rows = small_rows(3, 5)
        found = 0
        for inspector_ in some:
            for knot in range(len(knots(inspector_))):
                for row in rows:
                    told = round_right(inspector_, knot, row)
                    self.assertIs(told, plain_right(inspector_, knot, row), (inspector_, knot, row))
                    found += told
        self.assertGreater(found, 20)

    def test_the_round_told_otherwise(self):
        for row in ((3,), (3, 3), (3,) * 24):
            self.is_true(round_right(FREE, 0, row))
        eight = made(9, [word for word in itertools.product((0, 1), repeat=10) if sum(word) >= 3])
        row = thin_round(eight, 0)
        self.assertEqual(row, (1, 1, 8))
        for turned in (row, row[1:] + row[:1], row[2:] + row[:2], row * 2, row * 8, row[1:] + row + row[:1]):
            self.is_true(same(turned, row))
            self.is_true(round_right(eight, 0, turned))
        # Of the same density, and all allowed; of another density; with a word that is not allowed.
        self.is_true(round_right(eight, 0, (2, 3, 5)))
        self.is_true(round_right(eight, 0, (3, 5, 2, 3, 5, 2)))
        self.is_false(round_right(eight, 0, (3,)))
        self.is_false(round_right(eight, 0, (2, 3, 4)))
        self.is_false(round_right(eight, 0, (1, 2, 8)))
        self.is_false(round_right(eight, 0, (4, 3, 3, 4, 3, 3, 4, 3, 4)))

    def test_rows_of_another_knot(self):
        # Rows of the same density in knots of their own.
        both = made(4, set(in_a_row((0, 1, 0, 1, 0, 1, 0, 1, 0, 1), 4)[2]) | set(in_a_row((0, 0, 1, 1) * 3, 4)[2]))
        self.assertEqual(thinnest(both), ((1, 2), (1, 2)))
        self.assertEqual([thin_round(both, at) for at in (0, 1)], [(1, 3), (2,)])
        for knot, row, right in ((0, (3, 1), True), (1, (3, 1), False), (0, (2, 2), False), (1, (2, 2), True)):
            self.assertIs(round_right(both, knot, row), right)

    def test_the_dark_row(self):
        self.is_true(round_right(TURN, 0, ()))
        self.is_false(round_right(TURN, 1, ()))
        self.is_false(round_right(FREE, 0, ()))
        # (0, 0) is in the knot, but the word of empty cells alone is not allowed.
        self.assertIn((0, 0), knots(FREE)[0])
        # The word is allowed, but the knot has thinner ones only if it is not dark: never.
        self.is_true(round_right(made(2, list(FREE[2]) + [(0, 0, 0)]), 0, ()))

    def test_views_may_be_in_the_knot_and_words_not_allowed(self):
        # All views of (2,) are in the knot of the longer round, but not all of its words are allowed.
        cells = (0, 1, 0, 0, 1, 0, 1, 1, 0, 1, 0, 0, 1, 0, 1, 1)
        told = in_a_row(cells, 2)
        self.assertEqual(len(knots(told)), 1)
        for row in small_rows(3, 4):
            self.assertIs(round_right(told, 0, row), plain_right(told, 0, row))

    def test_what_is_no_row(self):
        for thing in (None, True, False, 0, 3, "3", "", [3], [], (True,), (0,), (100,), (3, True), (3, [3]), ((3,),),
                      (3,) * 25, (None,) * 25, nested(20), [[3]], ((),), (3, "3"), (-3,), (10 ** 40,)):
            self.is_false(round_right(FREE, 0, thing))
        self.is_false(round_right(TURN, 0, []))


class Limits(Case):

    def dotted_round(self, dots):
        """An inspector whose only round has so many dots."""
        chances = Chances(24)
        cells = []
        for _ in range(dots):
            cells += [1] + [0] * chances.below(5)
        told = in_a_row(cells + cells + cells[:60], 60)
        self.assertEqual([len(knot) for knot in knots(told)], [len(cells)])
        return told, cells

    def test_24_dots_and_25(self):
        told, cells = self.dotted_round(24)
        self.assertEqual(thin_round(told, 0), row_of(cells))
        self.assertEqual(len(thin_round(told, 0)), 24)
        self.is_true(round_right(told, 0, row_of(cells)))
        told, cells = self.dotted_round(25)
        self.refused(Wide, 0, thin_round, told, 0)
        self.is_false(round_right(told, 0, row_of(cells)))
        self.is_false(round_right(told, 0, row_of(cells)[:24]))
        told, cells = self.dotted_round(200)
        self.refused(Wide, 0, thin_round, told, 0)

    def test_great_gaps(self):
        # No gap of a round has more than k empty cells, as these would come again and again.
        told = in_a_row(((0,) * 60 + (1,)) * 3, 60)
        self.assertEqual(thin_round(told, 0), (61,))
        self.is_true(round_right(told, 0, (61, 61)))

    def test_1000_tuples_and_1001(self):
        chances = Chances(4)
        for many in (1000, 1001):
            cells = [chances.below(2) for _ in range(many)]
            told = in_a_row(cells + cells, 60)
            if many == 1000:
                self.refused(Wide, 0, thin_round, told, 0)
                self.is_false(round_right(told, 0, (2,)))
                self.refused(BadKnot, 0, thin_round, told, 1)
            else:
                self.refused(TooMany, 1000, thin_round, told, 0)
                self.refused(TooMany, 1000, round_right, told, 0, (2,))
                self.refused(TooMany, 1000, thin_round, told, None)

    def test_which_knot(self):
        for knot in (-1, 3, 10 ** 40, True, False, None, "0", (0,), [0], nested(20)):
            self.refused(BadKnot, 0, thin_round, TURN, knot)
            self.refused(BadKnot, 0, round_right, TURN, knot, (2,))
            self.refused(BadKnot, 0, round_right, TURN, knot, None)
            self.refused(BadInspector, -1, thin_round, None, knot)
            self.refused(BadInspector, 0, round_right, (1, 2, (None,)), knot, None)
        self.refused(BadKnot, 0, thin_round, (1, 2, ()), 0)
        self.refused(BadKnot, 0, round_right, (1, 2, ()), 0, ())
        # The knot is asked before the dots of its round are.
        told, _ = self.dotted_round(25)
        self.refused(BadKnot, 0, thin_round, told, 1)


if __name__ == "__main__":
    unittest.main()
