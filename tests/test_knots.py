"""[20] and [20.1] Knots, and the thinnest rounds."""

import itertools
import unittest
from fractions import Fraction

from tests.common import EVEN, THIRD, Case, Chances, all_words, chain, nested, ring
from undertwo.errors import BadInspector, TooMany
from undertwo.knots import knots, thinnest
from undertwo.madewords import inspector
from undertwo.plans import plan
from undertwo.prices import price

CHANCES = Chances(2020)


def made(k, words):
    return (k, 2 * k, tuple(sorted(words)))


def some_inspector(k, share):
    """Each plain word with such a chance, and some words with stations and END signs."""
    words = {word for word in itertools.product((0, 1), repeat=k + 1) if CHANCES.below(10) < share}
    words |= {tuple(CHANCES.below(7) for _ in range(k + 1)) for _ in range(4)}
    return made(k, {word for word in words if max(word) <= 1 or CHANCES.below(2)})


def plain_steps(inspector_):
    """The steps, as pairs of tuples, and all tuples in steps."""
    steps = [(word[:-1], word[1:]) for word in inspector_[2] if all(cell in (0, 1) for cell in word)]
    return steps, sorted({cells for step in steps for cells in step})


def plain_reach(inspector_):
    """All pairs of tuples of which the second one is reached by one step or more from the first one."""
    steps, tuples = plain_steps(inspector_)
    reach = set(steps)
    for middle in tuples:
        into = [one for one, two in reach if two == middle]
        onto = [two for one, two in reach if one == middle]
        reach |= set(itertools.product(into, onto))
    return reach, tuples


def plain_knots(inspector_):
    """By going over all pairs of tuples of cells."""
    reach, tuples = plain_reach(inspector_)
    found = []
    for cells in tuples:
        if (cells, cells) in reach and not any(cells in knot for knot in found):
            found.append(tuple(other for other in tuples if (cells, other) in reach and (other, cells) in reach))
    return tuple(found)


def rounds_of(inspector_, knot):
    """The cells stepped to in all rounds within the knot that do not meet themselves."""
    steps, _ = plain_steps(inspector_)
    after = {cells: [two for one, two in steps if one == cells and two in knot] for cells in knot}
    found = []

    def walk(first, way):
        for cells in after[way[-1]]:
            if cells == first:
                found.append([each[-1] for each in way[1:]] + [cells[-1]])
            elif cells > first and cells not in way:
                walk(first, way + [cells])

    for first in knot:
        walk(first, [first])
    return found


def plain_thinnest(inspector_):
    told = []
    for knot in plain_knots(inspector_):
        least = min(Fraction(sum(cells), len(cells)) for cells in rounds_of(inspector_, knot))
        told.append((least.numerator, least.denominator))
    return tuple(told)


def in_a_row(cells, k):
    """The inspector of the words that stand in a row of cells."""
    return made(k, {tuple(cells[at:at + k + 1]) for at in range(len(cells) - k)})


class Knots(Case):

    def check(self, inspector_):
        told = knots(inspector_)
        self.assertEqual(told, plain_knots(inspector_), inspector_)
        self.tuples_only(told)
        self.assertEqual(thinnest(inspector_), plain_thinnest(inspector_), inspector_)
        self.tuples_only(thinnest(inspector_))
        # No two have a tuple in common, each rises, and they come in the order of their least ones.
        every = [cells for knot in told for cells in knot]
        self.assertEqual(len(every), len(set(every)))
        self.assertEqual([list(knot) for knot in told], [sorted(knot) for knot in told])
        self.assertEqual([knot[0] for knot in told], sorted(knot[0] for knot in told))

    def test_all_inspectors_of_one_and_two_cells(self):
        for k in (1, 2):
            every = list(itertools.product((0, 1), repeat=k + 1))
            for chosen in itertools.product((0, 1), repeat=len(every)):
                self.check(made(k, [word for word, put in zip(every, chosen) if put]))

    def test_some_inspectors_of_more_cells(self):
        for k, share, many in ((3, 5, 200), (3, 8, 100), (4, 5, 200), (4, 8, 40), (5, 5, 100), (6, 5, 60)):
            for _ in range(many):
                self.check(some_inspector(k, share))

    def test_several_knots(self):
        found = [len(knots(some_inspector(5, 5))) for _ in range(60)]
        self.assertGreaterEqual(max(found), 3)
        self.assertEqual(min(found), 0)

    def test_single_tuples(self):
        # A single tuple is a knot only if it steps to itself.
        self.assertEqual(knots(made(3, [(0, 0, 0, 0)])), (((0, 0, 0),),))
        self.assertEqual(thinnest(made(3, [(0, 0, 0, 0)])), ((0, 1),))
        self.assertEqual(knots(made(3, [(1, 1, 1, 1)])), (((1, 1, 1),),))
        self.assertEqual(thinnest(made(3, [(1, 1, 1, 1)])), ((1, 1),))
        self.assertEqual(knots(made(3, [(0, 0, 0, 1), (0, 0, 1, 1)])), ())
        self.assertEqual(thinnest(made(3, [(0, 0, 0, 1), (0, 0, 1, 1)])), ())
        self.assertEqual(knots(made(1, [(0, 1), (1, 0)])), (((0,), (1,)),))
        self.assertEqual(thinnest(made(1, [(0, 1), (1, 0)])), ((1, 2),))
        self.assertEqual((knots((1, 2, ())), thinnest((60, 120, ()))), ((), ()))

    def test_words_with_stations_and_signs_are_no_steps(self):
        words = ((0, 0, 2), (0, 2, 0), (0, 3, 0), (2, 0, 0), (3, 0, 1), (4, 4, 4), (6, 6, 6))
        self.assertEqual(knots((2, 4, words)), ())
        self.assertEqual(knots((2, 4, ((0, 0, 0),) + words)), (((0, 0),),))
        self.assertEqual(knots((1, 2, ((2, 2), (3, 3)))), ())

    def test_rounds_that_are_met_late(self):
        # Two rounds with two tuples in common: of 3 steps with a dot, and of 5 with a dot.
        both = made(4, set(in_a_row((0, 0, 1) * 4, 4)[2]) | set(in_a_row((0, 0, 0, 0, 1) * 4, 4)[2]))
        self.assertEqual([len(knot) for knot in knots(both)], [6])
        self.assertEqual(thinnest(both), ((1, 5),))
        # 2/5 is less than 1/2 and more than 1/3.
        self.assertEqual(thinnest(in_a_row((0, 1, 0, 0, 1) * 4, 4)), ((2, 5),))
        self.assertEqual(thinnest(in_a_row((0, 1, 0, 0, 1) * 4 + (0, 1) * 6 + (0, 1, 0, 0, 1) * 2, 5)), ((2, 5),))

    def test_made_inspectors(self):
        for machine, k in ((EVEN, 4), (EVEN, 7), (EVEN, 60), (ring(3, (0,)), 15), (ring(3, (0,)), 33), (chain(3), 30),
                           (THIRD, 36), (ring(5, (1,)), 42), (all_words(2, (0, 1)), 9)):
            told = inspector(machine, k)
            rooms = machine[1]
            self.assertEqual(len(knots(told)), rooms)
            wanted = [Fraction(0)] + [Fraction(1, two) if kind == "middle" else Fraction(2, one + two)
                                      for kind, one, two in plan(k, rooms)]
            self.assertEqual(sorted(Fraction(*thin) for thin in thinnest(told)), sorted(wanted))
            self.assertEqual(max(Fraction(*thin) for thin in thinnest(told)), Fraction(*price(k, rooms)))


class Limits(Case):

    def many_cells(self, many):
        """So many cells with as many unlike tuples of 60 neighbouring ones, round and round too."""
        chances = Chances(4)
        cells = [chances.below(2) for _ in range(many)]
        self.assertEqual(len({tuple((cells + cells)[at:at + 60]) for at in range(many)}), many)
        return cells

    def test_1000_tuples_and_1001_in_a_round(self):
        cells = self.many_cells(1000)
        told = in_a_row(cells + cells, 60)
        self.assertEqual([len(knot) for knot in knots(told)], [1000])
        dots = Fraction(sum(cells), 1000)
        self.assertEqual(thinnest(told), ((dots.numerator, dots.denominator),))
        cells = self.many_cells(1001)
        self.refused(TooMany, 1000, knots, in_a_row(cells + cells, 60))
        self.refused(TooMany, 1000, thinnest, in_a_row(cells + cells, 60))

    def test_1000_tuples_and_1001_on_a_way(self):
        # Also tuples that steps only lead from, or only lead to, are in steps.
        cells = self.many_cells(1100)
        told = in_a_row(cells[:1059], 60)
        self.assertEqual(len(told[2]), 999)
        self.assertEqual((knots(told), thinnest(told)), ((), ()))
        self.refused(TooMany, 1000, knots, in_a_row(cells[:1060], 60))
        # Others do not count, and one tuple may be in many steps.
        more = tuple(sorted(told[2] + ((2,) * 61, (0,) * 30 + (3,) + (1,) * 30)))
        self.assertEqual(knots((60, 120, more)), ())

    def test_all_plain_words(self):
        every = tuple(itertools.product((0, 1), repeat=10))
        self.assertEqual(knots((9, 18, every)), (tuple(itertools.product((0, 1), repeat=9)),))
        self.assertEqual(thinnest((9, 18, every)), ((0, 1),))
        thin = tuple(word for word in every if sum(word) >= 3)
        self.assertEqual(thinnest((9, 18, thin)), ((3, 10),))
        self.refused(TooMany, 1000, knots, (10, 20, tuple(itertools.product((0, 1), repeat=11))))

    def test_what_made_inspector_refuses(self):
        for action in (knots, thinnest):
            self.refused(BadInspector, -1, action, None)
            self.refused(BadInspector, -1, action, nested(20))
            self.refused(BadInspector, 1, action, (1, 2, ((0, 0), (0, 0))))


if __name__ == "__main__":
    unittest.main()
