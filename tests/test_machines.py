"""[9] to [9.2] Machines, words and laws."""

import unittest

from tests.common import (EVEN, THIRD, WRONG_MACHINE, WRONG_WORD_OF_2, Case, Chances, chain, let_words, ring, runs_of,
                          words_up_to)
from undertwo.errors import BadMachine, BadWord
from undertwo.machines import first_run, flipped, is_machine, lets, made_machine, made_word, trimmed

CHANCES = Chances(99)
SOME = [CHANCES.machine(letters, rooms, CHANCES.below(2 * rooms + 1) + 1)
        for letters in (1, 2) for rooms in (1, 2, 3) for _ in range(15)] + [
    EVEN, THIRD, (1, 0, (), (), ()), (4, 0, (), (), ()), (2, 2, (), (0, 1), ((0, 0, 1),)),
    (2, 2, (0, 1), (), ((0, 0, 1),)), (2, 2, (0,), (0, 1), ()), (1, 3, (0, 1), (0,), ((0, 0, 2), (1, 0, 0)))]
FULL = (4, 40, tuple(range(40)), tuple(range(40)),
        tuple((one, by, two) for one in range(40) for by in range(4) for two in range(40)))


class Made(Case):

    def test_good_ones(self):
        for machine in SOME + [FULL, ring(40, (39,)), chain(39)]:
            self.assertEqual(made_machine(machine), machine)
            self.is_true(is_machine(machine))

    def test_wrong_ones(self):
        for thing, kind, what in WRONG_MACHINE:
            self.refused(kind, what, made_machine, thing)
            self.is_false(is_machine(thing))

    def test_the_first_wrong_part_is_told(self):
        self.refused(BadMachine, -1, made_machine, (5, 41, None, None, None))
        self.refused(BadMachine, 0, made_machine, (1, 1, (1,), (1,), ((0, 0, 1),)))
        self.refused(BadMachine, 1, made_machine, (1, 1, (0,), (1,), ((0, 0, 1),)))
        self.refused(BadMachine, 2, made_machine, (1, 1, (0,), (0,), ((0, 0, 1),)))
        self.refused(BadMachine, 2, made_machine, (4, 40, (39,), (39,), ((39, 4, 39),)))
        self.assertEqual(made_machine((4, 40, (39,), (39,), ((39, 3, 39),)))[4], ((39, 3, 39),))

    def test_words(self):
        for word in ((), (0,), (1, 0, 1), (0,) * 200, (1,) * 200):
            self.assertEqual(made_word(THIRD, word), word)
        for thing, kind, what in WRONG_WORD_OF_2:
            self.refused(kind, what, made_word, THIRD, thing)
            self.refused(kind, what, lets, THIRD, thing)
            self.refused(kind, what, first_run, THIRD, thing)
        for letters in (1, 2, 3, 4):
            machine = (letters, 0, (), (), ())
            self.assertEqual(made_word(machine, (letters - 1,)), (letters - 1,))
            self.refused(BadWord, 1, made_word, machine, (0, letters))
        self.refused(BadWord, -1, made_word, EVEN, (0,) * 201)


class Runs(Case):

    def test_held_against_all_runs(self):
        for machine in SOME:
            for word in words_up_to(machine[0], 4 if machine[1] < 4 else 3):
                runs = runs_of(machine, word)
                self.assertIs(lets(machine, word), bool(runs), (machine, word))
                self.assertEqual(first_run(machine, word), runs[0] if runs else None, (machine, word))

    def test_the_least_run_need_not_begin_with_the_least_room_everywhere(self):
        machine = (1, 4, (0, 1), (3,), ((0, 0, 2), (1, 0, 0), (1, 0, 3)))
        self.assertEqual(first_run(machine, (0,)), (1, 3))
        self.assertIsNone(first_run(machine, (0, 0)))
        self.assertEqual(first_run(FULL, (3,) * 3), (0, 0, 0, 0))

    def test_the_empty_word(self):
        self.is_true(lets((1, 1, (0,), (0,), ()), ()))
        self.is_false(lets((1, 2, (0,), (1,), ()), ()))
        self.is_false(lets((1, 0, (), (), ()), ()))
        self.assertEqual(first_run((1, 3, (0, 1, 2), (1, 2), ()), ()), (1,))

    def test_long_words(self):
        self.is_true(lets(EVEN, (0,) * 200))
        self.is_false(lets(EVEN, (0,) * 199))
        self.assertEqual(first_run(EVEN, (0,) * 200), (0, 1) * 100 + (0,))
        self.assertEqual(first_run(FULL, (1,) * 200), (0,) * 201)
        self.assertEqual(first_run(ring(40, (0,)), (0,) * 200), tuple(range(40)) * 5 + (0,))
        self.assertIsNone(first_run(ring(40, (1,)), (0,) * 200))
        self.is_false(lets((2, 0, (), (), ()), (0, 1)))
        self.tuples_only(first_run(EVEN, (0, 0)))


class Trimmed(Case):

    def plain_trimmed(self, machine):
        """By the rooms that stand in the runs of words that are long enough to come anywhere."""
        letters, rooms, starts, ends, moves = machine
        words = words_up_to(letters, 2 * rooms if letters == 1 else 4)
        used = sorted({room for word in words for run in runs_of(machine, word) for room in run})
        place = {room: at for at, room in enumerate(used)}
        return (letters, len(used), tuple(place[room] for room in starts if room in place),
                tuple(place[room] for room in ends if room in place),
                tuple((place[one], by, place[two]) for one, by, two in moves if one in place and two in place))

    def test_held_against_runs(self):
        for machine in SOME:
            if machine[1] < 4:
                self.assertEqual(trimmed(machine), self.plain_trimmed(machine), machine)
                self.assertEqual(let_words(trimmed(machine), 5), let_words(machine, 5))
                self.tuples_only(trimmed(machine))

    def test_rooms_on_no_run(self):
        # Room 0 comes to no end, room 2 is come to from nowhere, room 4 has no moves at all.
        machine = (2, 6, (0, 1), (3, 4), ((0, 0, 0), (1, 1, 0), (1, 1, 3), (1, 1, 5), (2, 0, 3), (5, 0, 5)))
        self.assertEqual(trimmed(machine), (2, 2, (0,), (1,), ((0, 1, 1),)))
        self.assertEqual(trimmed(FULL), FULL)
        self.assertEqual(trimmed(ring(40, ())), (1, 0, (), (), ()))
        self.assertEqual(trimmed((3, 40, (), (0,), ())), (3, 0, (), (), ()))
        self.assertEqual(trimmed((3, 40, (7,), (7,), ((7, 0, 8), (8, 1, 7), (9, 0, 7)))),
                         (3, 2, (0,), (0,), ((0, 0, 1), (1, 1, 0))))
        self.assertEqual(trimmed(chain(39)), chain(39))


class Flipped(Case):

    def test_words_backwards(self):
        for machine in SOME:
            told = flipped(machine)
            self.is_true(is_machine(told))
            self.tuples_only(told)
            self.assertEqual(sorted(let_words(told, 5)), sorted(word[::-1] for word in let_words(machine, 5)))
            self.assertEqual(flipped(told), machine)
            letters, rooms, starts, ends, moves = machine
            self.assertEqual(told, (letters, rooms, ends, starts, tuple(sorted((two, by, one) for one, by, two in moves))))


if __name__ == "__main__":
    unittest.main()
