"""[18] and [18.1] The painter."""

import unittest

from tests.common import (EVEN, THIRD, WRONG_MACHINE, Case, Chances, all_words, chain, empty_word, no_words, ring,
                          runs_of, two_circles, words_up_to)
from undertwo.errors import (BadK, BadLengths, BadMachine, BadMany, BadSize, BadWord, NotLet, Short, TooLong, TooMany,
                             TooThin)
from undertwo.lines import bare, dots_in, sizes, stations, undotted
from undertwo.machines import trimmed
from undertwo.painter import bound, paint
from undertwo.plans import shortest, stretch
from undertwo.prices import price, sure_from

CHANCES = Chances(1818)
SOME = [CHANCES.machine(letters, rooms, CHANCES.below(3 * rooms) + 2)
        for letters in (1, 2, 3) for rooms in (1, 2, 3, 4, 5) for _ in range(4)] + [
    EVEN, THIRD, empty_word(1), all_words(2, (0, 1)), all_words(3, (2,)), chain(3), ring(5, (0, 2)),
    # Room 0 comes to no end, room 2 is come to from nowhere.
    (2, 6, (0, 1), (3, 4), ((0, 0, 0), (1, 1, 0), (1, 1, 3), (1, 1, 5), (2, 0, 3), (5, 0, 5))),
    # Not least: two rooms that are alike, and a room more.
    (1, 5, (0, 1), (0, 1, 4), ((0, 0, 2), (1, 0, 3), (2, 0, 0), (3, 0, 1)))]


def plain_paint(machine, k, word, lengths):
    """Stretch by stretch along the least of all runs of the trimmed machine."""
    small = trimmed(machine)
    run = runs_of(small, word)[0]
    cells = ()
    for at, room in enumerate(run):
        cells += stretch(k, small[1], room, lengths[at])
        cells += (3 + word[at],) if at < len(word) else ()
    return cells


class Paint(Case):

    def test_stretch_by_stretch(self):
        painted = 0
        for machine in SOME:
            rooms = trimmed(machine)[1]
            for word in words_up_to(machine[0], 3 if machine[0] < 3 else 2):
                k = sure_from(rooms) + CHANCES.below(61 - sure_from(rooms))
                lengths = tuple(shortest(k, rooms) + CHANCES.below(40) for _ in range(len(word) + 1))
                if not runs_of(trimmed(machine), word):
                    self.refused(NotLet, 0, paint, machine, k, word, lengths)
                elif len(word) + sum(lengths) > 6000:
                    self.refused(TooLong, len(word) + sum(lengths), paint, machine, k, word, lengths)
                else:
                    line = paint(machine, k, word, lengths)
                    self.assertEqual(line, plain_paint(machine, k, word, lengths), (machine, k, word, lengths))
                    self.assertEqual((stations(line), sizes(line)), (word, lengths))
                    self.assertEqual(undotted(line), bare(word, lengths))
                    self.assertLessEqual(max(dots_in(line)), max(bound(k, rooms, size) for size in lengths))
                    self.tuples_only(line)
                    painted += 1
        self.assertGreater(painted, 200)

    def test_the_machine_is_trimmed_but_not_made_least(self):
        # The same law as EVEN; room 0 is of no use, so room 1 is dark, and room 2 has the number 1.
        machine = (1, 3, (1,), (1,), ((1, 0, 2), (2, 0, 1)))
        self.assertEqual(paint(machine, 4, (0, 0), (12, 13, 14)), paint(EVEN, 4, (0, 0), (12, 13, 14)))
        # The same law, with four rooms.
        doubled = (1, 4, (0,), (0, 2), ((0, 0, 1), (1, 0, 2), (2, 0, 3), (3, 0, 0)))
        self.refused(TooThin, 30, paint, doubled, 4, (0, 0), (12, 13, 14))
        line = paint(doubled, 30, (0, 0), (380, 380, 380))
        self.assertEqual(line[381 + 381:], stretch(30, 4, 2, 380))

    def test_few_rooms(self):
        self.assertEqual(paint(empty_word(1), 1, (), (3,)), (0, 0, 0))
        self.assertEqual(paint(all_words(4, (0, 1, 2, 3)), 1, (0, 1, 2, 3), (3, 3, 3, 3, 3)),
                         (0, 0, 0, 3, 0, 0, 0, 4, 0, 0, 0, 5, 0, 0, 0, 6, 0, 0, 0))
        for word in ((), (0,)):
            self.refused(NotLet, 0, paint, no_words(1), 1, word, (3,) * (len(word) + 1))
            self.refused(NotLet, 0, paint, ring(40, ()), 60, word, (180,) * (len(word) + 1))

    def test_5_rooms_on_runs_and_6(self):
        # The other rooms of a machine with more than 5 do not count, if they stand in no run.
        five = ring(5, (0,))
        letters, _, starts, ends, moves = five
        wide = (letters, 40, starts, ends, moves + tuple((room, 0, room) for room in range(5, 40)))
        lengths = (shortest(42, 5),) * 6
        self.assertEqual(paint(wide, 42, (0,) * 5, lengths), paint(five, 42, (0,) * 5, lengths))
        self.refused(TooMany, 6, paint, ring(6, (0,)), 42, (0,) * 5, lengths)
        self.refused(TooMany, 6, paint, ring(6, (0,)), None, None, None)
        self.refused(TooMany, 40, paint, ring(40, (0,)), 42, (0,) * 5, lengths)

    def test_just_sure_from_and_one_less(self):
        for rooms in (2, 3, 4, 5):
            machine = ring(rooms, (0,))
            least = sure_from(rooms)
            word, lengths = (0,) * rooms, (shortest(least, rooms),) * (rooms + 1)
            self.assertEqual(stations(paint(machine, least, word, lengths)), word)
            self.refused(TooThin, least, paint, machine, least - 1, word, lengths)
            self.refused(TooThin, least, paint, machine, 1, (0,), (0, 0))
        self.assertEqual(len(paint(all_words(1, (0,)), 1, (), (3,))), 3)

    def test_the_shortest_size_and_one_less(self):
        self.assertEqual(len(paint(EVEN, 4, (0, 0), (12, 12, 12))), 38)
        for at in range(3):
            lengths = [12, 12, 12]
            lengths[at] = 11
            self.refused(Short, at, paint, EVEN, 4, (0, 0), tuple(lengths))
        self.refused(Short, 0, paint, EVEN, 4, (0, 0), (0, 11, 0))
        self.refused(Short, 1, paint, EVEN, 4, (0, 0), (5000, 11, 5000))

    def test_6000_cells_and_6001(self):
        self.assertEqual(len(paint(EVEN, 4, (0, 0), (5000, 986, 12))), 6000)
        self.refused(TooLong, 6001, paint, EVEN, 4, (0, 0), (5000, 986, 13))
        self.assertEqual(len(paint(EVEN, 4, (0,) * 200, (28,) * 200 + (200,))), 6000)
        self.refused(TooLong, 6001, paint, EVEN, 4, (0,) * 200, (28,) * 200 + (201,))
        self.refused(TooLong, 15002, paint, EVEN, 4, (0, 0), (5000, 5000, 5000))

    def test_the_order_of_what_is_refused(self):
        self.refused(BadMachine, -1, paint, None, None, None, None)
        self.refused(TooMany, 6, paint, ring(6, (0,)), 0, (1,), ())
        self.refused(BadK, 0, paint, EVEN, 61, (1,), ())
        self.refused(BadWord, 0, paint, EVEN, 3, (1,), ())
        self.refused(BadLengths, -1, paint, EVEN, 3, (0,), ())
        self.refused(BadLengths, 1, paint, EVEN, 3, (0,), (0, 5001))
        self.refused(TooThin, 4, paint, EVEN, 3, (0,), (0, 5000))
        self.refused(NotLet, 0, paint, EVEN, 4, (0,), (0, 5000))
        self.refused(Short, 0, paint, EVEN, 4, (0, 0), (0, 5000, 5000))
        self.refused(TooLong, 10014, paint, EVEN, 4, (0, 0), (12, 5000, 5000))

    def test_wrong_machines(self):
        for thing, kind, what in WRONG_MACHINE:
            self.refused(kind, what, paint, thing, 4, (), (12,))


class Bound(Case):

    def test_the_most_dots_of_all_rooms(self):
        for k, rooms in ((4, 2), (5, 2), (60, 2), (15, 3), (17, 3), (30, 4), (42, 5), (60, 5)):
            least = shortest(k, rooms)
            for size in list(range(least, least + 60)) + [4999, 5000]:
                most = max(stretch(k, rooms, room, size).count(1) for room in range(rooms))
                self.assertEqual(bound(k, rooms, size), most)
        for k in (1, 7, 60):
            for size in (3 * k, 5000):
                self.assertEqual((bound(k, 0, size), bound(k, 1, size)), (0, 0))

    def test_long_stretches_cost_the_price(self):
        for k, rooms in ((4, 2), (60, 2), (15, 3), (60, 3), (30, 4), (60, 4), (42, 5), (60, 5)):
            above, below = price(k, rooms)
            most = bound(k, rooms, 5000)
            self.assertLess(abs(most * below - 5000 * above), 20 * below)

    def test_wrong_ones(self):
        for k, rooms in ((4, 0), (4, 1), (4, 2), (15, 3), (60, 5)):
            least = shortest(k, rooms)
            for size in (least - 1, 5001, 0, -1, None, True, "12", (12,), [12], 10 ** 40):
                self.refused(BadSize, least, bound, k, rooms, size)
        self.refused(TooThin, 4, bound, 3, 2, None)
        self.refused(BadMany, 0, bound, 3, 6, None)
        self.refused(BadMany, 0, bound, 3, True, None)
        self.refused(BadK, 0, bound, 0, 6, None)


if __name__ == "__main__":
    unittest.main()
