"""[13] The least machine for a law."""

import itertools
import unittest

from tests.common import (EVEN, THIRD, Case, Chances, all_words, chain, empty_word, let_words, no_words, renamed, ring,
                          tail_and_ring, two_circles)
from undertwo.errors import BadMachine, TooMany
from undertwo.leastrooms import least_lot, least_machine, least_rooms
from undertwo.machines import flipped, is_machine
from undertwo.rects import rect_machine, rects
from undertwo.sure import sure_of

CHANCES = Chances(1313)
SOME = [CHANCES.machine(letters, rooms, CHANCES.below(2 * rooms + 1) + 1)
        for letters in (1, 2, 3) for rooms in (1, 2, 3, 4) for _ in range(10)] + [
    EVEN, THIRD, flipped(THIRD), no_words(1), no_words(2), empty_word(1), empty_word(2), all_words(1, (0,)),
    all_words(2, (0, 1)), all_words(2, (1,)), chain(3), ring(6, (1, 3)), (2, 2, (), (0,), ()), (2, 2, (1,), (), ()),
    tail_and_ring(2, 3, (0, 3)), ring(6, (0, 1)), ring(12, (5,)), chain(10), two_circles(3, 4, (0, 3))]


def refused_by_rects(machine):
    try:
        rects(machine)
    except TooMany:
        return True
    return False


GOOD = [machine for machine in SOME if not refused_by_rects(machine)]


def lots_in_order(many):
    for size in range(many + 1):
        yield from itertools.combinations(range(many), size)


def small_machines(letters, rooms):
    """All machines of so few letters and rooms."""
    every = list(itertools.product(range(rooms), range(letters), range(rooms)))
    some = [tuple(room for room, put in enumerate(chosen) if put) for chosen in itertools.product((0, 1), repeat=rooms)]
    for chosen in itertools.product((0, 1), repeat=len(every)):
        moves = tuple(move for move, put in zip(every, chosen) if put)
        for starts, ends in itertools.product(some, repeat=2):
            yield (letters, rooms, starts, ends, moves)


class LeastLot(Case):

    def plain_lot(self, machine, length):
        """The first lot whose machine lets the same words of up to so many letters."""
        law = let_words(machine, length)
        return next(lot for lot in lots_in_order(len(rects(machine)))
                    if let_words(rect_machine(machine, lot), length) == law)

    def test_held_against_all_lots_in_order(self):
        self.assertGreater(len(GOOD), 100)
        for machine in GOOD:
            self.assertEqual(least_lot(machine), self.plain_lot(machine, 26 if machine[0] == 1 else 7), machine)
            self.tuples_only(least_lot(machine))

    def test_least_machine_and_rooms_go_with_it(self):
        for machine in GOOD:
            least = least_machine(machine)
            self.assertEqual(least, rect_machine(machine, least_lot(machine)))
            self.assertEqual(least_rooms(machine), least[1])
            self.is_true(is_machine(least))
            self.tuples_only(least)
            # Of the same law, to the last word.
            self.assertEqual(sure_of(least), sure_of(machine))

    def test_third(self):
        law = let_words(THIRD, 9)
        good = [lot for lot in lots_in_order(8) if len(lot) <= 4 and let_words(rect_machine(THIRD, lot), 9) == law]
        self.assertEqual(good, [(4, 5, 6, 7)])
        self.assertEqual(least_lot(THIRD), (4, 5, 6, 7))

    def test_edges(self):
        for letters in (1, 2, 3, 4):
            self.assertEqual(least_lot(no_words(letters)), ())
            self.assertEqual(least_machine(no_words(letters)), (letters, 0, (), (), ()))
            self.assertEqual(least_rooms((letters, 3, (0,), (2,), ((0, 0, 1),))), 0)
            for some in itertools.chain.from_iterable(
                    itertools.combinations(range(letters), many) for many in range(letters + 1)):
                self.assertEqual(least_lot(all_words(letters, some)), (0,))
                self.assertEqual(least_machine(all_words(letters, some)), all_words(letters, some))
                self.assertEqual(least_rooms(all_words(letters, some)), 1)
        self.assertEqual(least_rooms((2, 2, (0, 1), (0, 1), ((0, 0, 0), (1, 0, 0)))), 1)
        # All words but the empty one ask for two rooms.
        self.assertEqual(least_rooms(tail_and_ring(1, 1, (1,))), 2)

    def test_chains_and_rings(self):
        for many in range(11):
            self.assertEqual(least_rooms(chain(many)), many + 1)
        for many in range(1, 13):
            self.assertEqual(least_rooms(ring(many, (many // 2,))), many)
            self.assertEqual(least_lot(ring(many, (0,))), tuple(range(many)))

    def test_machines_that_may_guess_have_fewer_rooms(self):
        second = (2, 3, (0,), (2,), ((0, 0, 0), (0, 0, 1), (0, 1, 0), (1, 0, 2), (1, 1, 2)))
        for machine, rooms, sure_rooms in ((THIRD, 4, 8), (flipped(THIRD), 4, 5), (second, 3, 4)):
            self.assertEqual((least_rooms(machine), sure_of(machine)[1]), (rooms, sure_rooms))


class NoFewerRooms(Case):

    def fewest_rooms(self, letters, most):
        """For the law of each machine of up to so many rooms, the fewest rooms of such a machine."""
        fewest = {}
        for rooms in range(most + 1):
            for machine in small_machines(letters, rooms):
                fewest.setdefault(sure_of(machine), rooms)
        return fewest

    def test_held_against_all_small_machines(self):
        for letters, most in ((1, 3), (2, 2)):
            fewest = self.fewest_rooms(letters, most)
            for sure, rooms in fewest.items():
                self.assertEqual(least_rooms(sure), rooms, sure)
            for machine in GOOD:
                if machine[0] == letters:
                    told = least_rooms(machine)
                    self.assertEqual(fewest.get(sure_of(machine), told), told)
                    self.assertIs(sure_of(machine) in fewest, told <= most)

    def test_never_above_the_rooms_of_any_machine_with_the_law(self):
        for machine in GOOD:
            self.assertLessEqual(least_rooms(machine), machine[1])
            self.assertLessEqual(least_rooms(machine), sure_of(machine)[1])

    def test_the_same_law_gives_the_same(self):
        for machine in GOOD:
            for other in (sure_of(machine), renamed(machine, list(range(machine[1]))[::-1]), least_machine(machine)):
                self.assertEqual(least_lot(other), least_lot(machine))
                self.assertEqual(least_machine(other), least_machine(machine))
                self.assertEqual(least_rooms(other), least_rooms(machine))

    def test_backwards_there_are_as_many_rooms(self):
        for machine in GOOD:
            if not refused_by_rects(flipped(machine)):
                self.assertEqual(least_rooms(flipped(machine)), least_rooms(machine), machine)


class Refused(Case):

    def test_what_rects_refuses(self):
        for action in (least_lot, least_machine, least_rooms):
            self.refused(TooMany, 200, action, two_circles(8, 25, (0,), tail=1))
            self.refused(TooMany, 41, action, chain(39))
            self.refused(TooMany, 13, action, ring(13, (5,)))
            self.refused(TooMany, 12, action, ring(7, (0, 1)))
            self.refused(BadMachine, 0, action, (1, 1, (1,), (), ()))


if __name__ == "__main__":
    unittest.main()
