"""[8] and [8.1] Shares."""

import itertools
import unittest
from fractions import Fraction

from tests.common import NO_NUMBERS, WRONG_WEIGHTS, Case, Chances
from undertwo.errors import BadK, BadWeights, NoRoom
from undertwo.shares import cheapest


def plain_cheapest(k, weights):
    """The first of the cheapest out of the list of all choices."""
    others = len(weights) - 1
    fitting = [ts for ts in itertools.product(range(1, k + 1), repeat=others)
               if not ts or 2 * sum(ts) - max(ts) <= k]
    choices = []
    for dark in range(len(weights)):
        heavy = weights[:dark] + weights[dark + 1:]
        for ts in fitting:
            cost = sum((Fraction(2 * weight, k + t) for weight, t in zip(heavy, ts)), Fraction(0))
            choices.append((cost, dark, ts[:dark] + (0,) + ts[dark:]))
    cost, dark, ts = min(choices)
    return ((cost.numerator, cost.denominator), dark, ts)


class Shares(Case):

    def check(self, k, weights):
        self.assertEqual(cheapest(k, weights), plain_cheapest(k, weights), (k, weights))

    def test_held_against_all_choices(self):
        chances = Chances(88)
        for many, greatest in ((1, 24), (2, 24), (3, 12), (4, 8), (5, 8)):
            for _ in range(25):
                k = chances.below(greatest) + 1
                weights = tuple(chances.below((3, 12, 1001)[chances.below(3)]) for _ in range(many))
                if many - 1 <= (k + 1) // 2:
                    self.check(k, weights)
                else:
                    self.refused(NoRoom, 0, cheapest, k, weights)

    def test_wide_views(self):
        self.check(24, (3, 1, 2))
        self.check(24, (0, 0, 1000))
        self.check(23, (1000, 999, 998))
        self.check(24, (1, 2, 4, 8))
        # The greatest case: as its weights are all alike, the darkest one is the first.
        told = cheapest(24, (1000, 1000, 1000, 1000, 1000))
        self.assertEqual(told[1], 0)
        self.assertEqual(told[2][0], 0)
        self.tuples_only(told)

    def test_four_others_in_the_widest_view(self):
        k, weights = 24, (7, 3, 9, 100, 1)
        least = None
        for ts in itertools.product(range(1, 19), repeat=4):
            if 2 * sum(ts) - max(ts) <= k:
                for dark in range(5):
                    heavy = weights[:dark] + weights[dark + 1:]
                    # 10 ** 40 parts are fine enough to tell unlike costs apart.
                    cost = sum(2 * weight * 10 ** 40 // (k + t) for weight, t in zip(heavy, ts))
                    found = (cost // 1000, dark, ts[:dark] + (0,) + ts[dark:])
                    least = found if least is None else min(least, found)
        cost = sum((Fraction(2 * weight, k + t) for at, (weight, t) in enumerate(zip(weights, least[2]))
                    if at != least[1]), Fraction(0))
        self.assertEqual(cheapest(k, weights), ((cost.numerator, cost.denominator),) + least[1:])

    def test_alike_weights_and_weights_of_nothing(self):
        for k in (3, 4, 5, 9):
            for weights in ((5, 5), (5, 5, 5), (0, 0, 0), (0, 0), (0, 5, 5), (5, 0, 5), (5, 5, 0), (0, 0, 1)):
                self.check(k, weights)
        self.assertEqual(cheapest(9, (0, 0, 0)), ((0, 1), 0, (0, 1, 1)))
        self.assertEqual(cheapest(9, (4, 4))[1:], (0, (0, 9)))

    def test_a_single_weight(self):
        for k in (1, 2, 24):
            for weight in (0, 1, 1000):
                self.assertEqual(cheapest(k, (weight,)), ((0, 1), 0, (0,)))

    def test_as_many_others_as_have_room_and_one_more(self):
        for k in range(1, 9):
            room = (k + 1) // 2
            if room <= 4:
                self.check(k, tuple(range(1, room + 2)))
            if room + 2 <= 5:
                self.refused(NoRoom, 0, cheapest, k, (1,) * (room + 2))
        self.assertEqual(cheapest(1, (2, 3)), ((2, 1), 1, (1, 0)))

    def test_wrong_arguments(self):
        for k in NO_NUMBERS + (0, 25, 60, 61, -1, 10 ** 40):
            self.refused(BadK, 0, cheapest, k, (1, 1))
            self.refused(BadK, 0, cheapest, k, None)
        for thing, kind, what in WRONG_WEIGHTS:
            self.refused(kind, what, cheapest, 24, thing)
        # The weights are looked at before it is asked whether there is room.
        self.refused(BadWeights, 3, cheapest, 1, (1, 1, 1, 1001))
        self.refused(BadWeights, -1, cheapest, 1, (1,) * 6)
        self.assertEqual(cheapest(24, (1000, 0))[0], (0, 1))


if __name__ == "__main__":
    unittest.main()
