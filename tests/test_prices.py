"""[15] and [15.1] Prices."""

import unittest
from fractions import Fraction

from tests.common import (EVEN, THIRD, Case, all_words, chain, empty_word, no_words, ring, tail_and_ring, two_circles,
                          wrong_numbers)
from undertwo.errors import BadK, BadMachine, BadMany, TooMany
from undertwo.leastrooms import least_rooms
from undertwo.prices import code_size, law_price, long_price, price, sure_from
from undertwo.thick import least_density


def plain(fraction):
    return (fraction.numerator, fraction.denominator)


class Prices(Case):

    def test_each_k_and_each_number_of_rooms(self):
        for k in range(1, 61):
            for rooms in (0, 1):
                self.assertEqual(price(k, rooms), (0, 1))
            for rooms in range(2, 31):
                self.assertEqual(price(k, rooms), plain(Fraction(2, k + k // (2 * rooms - 3))))
                self.tuples_only(price(k, rooms))

    def test_the_price_is_what_the_densest_of_the_rows_must_have(self):
        # The room without dots costs nothing, the others are as many rows that are told apart.
        for k in range(1, 61):
            for rooms in range(2, 31):
                if 2 * rooms - 3 <= k:
                    self.assertEqual(price(k, rooms), least_density(k, rooms - 1))

    def test_long_prices(self):
        self.assertEqual([long_price(rooms) for rooms in range(6)], [(0, 1), (0, 1), (1, 1), (3, 2), (5, 3), (7, 4)])
        for rooms in range(2, 31):
            self.assertEqual(long_price(rooms), plain(2 - Fraction(1, rooms - 1)))
            # k times the price, for a k that divides and is great.
            k = (2 * rooms - 3) * 10 ** 9
            self.assertEqual(Fraction(2 * k, k + k // (2 * rooms - 3)), Fraction(*long_price(rooms)))
            self.tuples_only(long_price(rooms))

    def test_code_sizes(self):
        for rooms in range(31):
            wanted = 0 if rooms < 2 else 1
            numbers = 1
            # One cell more whenever the numbers from 0 to the number of rooms less 2 ask for a digit more.
            while rooms >= 2 and numbers < rooms - 1:
                wanted += 1
                numbers *= 2
            self.assertEqual(code_size(rooms), wanted)

    def test_sure_from(self):
        self.assertEqual([sure_from(rooms) for rooms in (0, 1, 2, 3, 4, 5, 6)], [1, 1, 4, 15, 30, 42, 63])
        for rooms in range(2, 31):
            self.assertEqual(sure_from(rooms), (2 * rooms - 3) * (len(bin(rooms - 2).replace("0b0", "0b")) - 2 + 4))

    def test_30_rooms_and_31(self):
        self.assertEqual((price(60, 30), long_price(30), code_size(30), sure_from(30)),
                         ((2, 61), (57, 29), 6, 513))
        for rooms, kind, what in wrong_numbers(0, 30, BadMany):
            self.refused(kind, what, price, 4, rooms)
            self.refused(kind, what, long_price, rooms)
            self.refused(kind, what, code_size, rooms)
            self.refused(kind, what, sure_from, rooms)
            self.refused(BadK, 0, price, 61, rooms)

    def test_law_prices(self):
        for machine in (EVEN, THIRD, no_words(2), empty_word(3), all_words(2, (0,)), chain(10), ring(12, (0,)),
                        tail_and_ring(2, 2, (0, 1, 2)), tail_and_ring(1, 1, (1,))):
            for k in (1, 2, 7, 15, 60):
                self.assertEqual(law_price(machine, k), price(k, least_rooms(machine)))
        self.assertEqual(law_price(THIRD, 30), (1, 18))
        self.assertEqual(law_price(no_words(1), 1), (0, 1))
        self.assertEqual(law_price(all_words(4, (1, 3)), 60), (0, 1))
        # The least number of rooms counts, not that of the machine at hand.
        self.assertEqual(law_price((1, 4, (0, 2), (0, 2), ((0, 0, 1), (1, 0, 0), (2, 0, 3), (3, 0, 2))), 4), (1, 4))

    def test_the_order_of_what_is_refused(self):
        for k in (0, 61, True, None, "4"):
            self.refused(BadK, 0, law_price, EVEN, k)
            self.refused(TooMany, 13, law_price, ring(13, (0,)), k)
            self.refused(TooMany, 12, law_price, ring(7, (0, 1)), k)
            self.refused(TooMany, 200, law_price, two_circles(8, 25, (0,), tail=1), k)
            self.refused(TooMany, 41, law_price, chain(39), k)
            self.refused(BadMachine, -1, law_price, None, k)


if __name__ == "__main__":
    unittest.main()
