"""[19.2] and [19.3] Made inspectors."""

import itertools
import unittest
from functools import lru_cache

from tests.common import (EVEN, THIRD, WRONG_MACHINE, Case, Chances, all_words, chain, empty_word, no_words, ring,
                          words_up_to)
from undertwo.errors import BadK, BadMachine, NotLet, TooMany, TooThin
from undertwo.inspectors import first_no, is_inspector, passes, words_of
from undertwo.lines import sizes, stations
from undertwo.machines import lets, trimmed
from undertwo.madewords import inspector
from undertwo.painter import paint
from undertwo.plans import code, plan, shortest
from undertwo.prices import sure_from

CHANCES = Chances(192)
SOME = [CHANCES.machine(letters, rooms, 3 * rooms + CHANCES.below(4))
        for letters in (1, 2) for rooms in (2, 3, 4) for _ in range(6)] + [
    EVEN, THIRD, all_words(1, (0,)), all_words(3, (0, 2)), empty_word(1), chain(2), chain(4), ring(3, (0,)),
    ring(5, (1,))]


def made_stretch(k, rooms, room, less):
    """The stretch of a room from 1 on with units whose first gaps are made less by these numbers: dot by dot."""
    own = code(rooms, room)
    kind, one, two = plan(k, rooms)[room - 1]
    gaps = [one]
    for by in less:
        gaps += [two - by] if kind == "middle" else [two - by, one]
    gaps += [one] if kind == "middle" else []
    at = len(own) - 1
    cells = list(own[::-1])
    for gap in gaps:
        cells += [0] * gap
        at += gap
        cells[at] = 1
    return tuple(cells) + own[1:]


def least_units(k, rooms, room):
    """So many units that the stretch has at least m cells, however much less they are made."""
    units = 1
    while len(made_stretch(k, rooms, room, [3] * units)) < shortest(k, rooms):
        units += 1
    return units


def some_stretch(k, rooms, room):
    """A made stretch, all by its own choices."""
    m = shortest(k, rooms)
    if room == 0:
        return (0,) * (m + CHANCES.below(30))
    less = [CHANCES.below(4)]
    while len(made_stretch(k, rooms, room, less)) < m or CHANCES.below(3):
        less.append(CHANCES.below(4))
    return made_stretch(k, rooms, room, less)


def some_line(small, k):
    """A made line of a trimmed machine, with one station a step on a way that ends when it may."""
    letters, rooms, starts, ends, moves = small
    room = starts[CHANCES.below(len(starts))]
    cells = some_stretch(k, rooms, room)
    while room not in ends or CHANCES.below(3):
        goals = [move for move in moves if move[0] == room]
        if not goals:
            break
        _, letter, room = goals[CHANCES.below(len(goals))]
        cells += (3 + letter,) + some_stretch(k, rooms, room)
    return cells if room in ends else None


def cut(k, cells):
    return {cells[at:at + k + 1] for at in range(len(cells) - k)}


def many_stretches(k, rooms, room, varied):
    """Made stretches in which so many units next to one of the ends are made less in all ways."""
    if room == 0:
        return [(0,) * shortest(k, rooms)]
    fill = [0] * least_units(k, rooms, room)
    return [made_stretch(k, rooms, room, less) for choice in itertools.product(range(4), repeat=varied)
            for less in (list(choice) + fill, fill + list(choice))]


@lru_cache(maxsize=None)
def cut_up(k, rooms, room, varied):
    """All words of many stretches of a room, their first k cells and their last k cells."""
    stretches = many_stretches(k, rooms, room, varied)
    return (set().union(*[cut(k, cells) for cells in stretches]), {cells[:k] for cells in stretches},
            {cells[-k:] for cells in stretches})


def plain_words(machine, k, varied):
    """All words: those of many stretches, and those of all of their ends on both sides of signs and stations."""
    _, rooms, starts, ends, moves = trimmed(machine)
    inner, heads, tails = zip(*[cut_up(k, rooms, room, varied) for room in range(rooms)]) if rooms else ((), (), ())
    found = set().union(*inner)
    for room in starts:
        for head in heads[room]:
            found |= cut(k, (2,) * k + head)
    for room in ends:
        for tail in tails[room]:
            found |= cut(k, tail + (2,) * k)
    for one, letter, two in moves:
        for tail, head in itertools.product(tails[one], heads[two]):
            found |= cut(k, tail + (3 + letter,) + head)
    return tuple(sorted(found))


def all_moves(letters, rooms):
    return itertools.product(range(rooms), range(letters), range(rooms))


def few_rooms(machine):
    return trimmed(machine)[1] <= 5


class Words(Case):

    def check(self, machine, k, varied):
        told = inspector(machine, k)
        self.is_true(is_inspector(told))
        self.tuples_only(told)
        self.assertEqual(told[:2], (k, shortest(k, trimmed(machine)[1])))
        self.assertEqual(told[2], plain_words(machine, k, varied), (machine, k))

    def test_small_views(self):
        for machine in SOME:
            rooms = trimmed(machine)[1]
            if rooms == 2:
                self.check(machine, 4, 6)
                self.check(machine, 5, 5)
            elif rooms < 2:
                self.check(machine, 1, 1)
                self.check(machine, 2, 1)

    def test_greater_views(self):
        for machine in SOME:
            rooms = trimmed(machine)[1]
            for k in (6, 7, 9, 15, 16, 22, 30, 42, 60):
                if k >= sure_from(rooms):
                    self.check(machine, k, 4 if k < 9 else 3)

    def test_even(self):
        told = inspector(EVEN, 4)
        self.assertEqual((told[0], told[1], len(told[2])), (4, 12, 56))
        stationed = [word for word in told[2] if max(word) >= 3]
        signed = [word for word in told[2] if 2 in word]
        self.assertEqual((len(told[2]) - len(stationed) - len(signed), len(stationed), len(signed)), (30, 18, 8))
        self.assertEqual(told[2][:3], ((0, 0, 0, 0, 0), (0, 0, 0, 0, 2), (0, 0, 0, 0, 3)))
        self.assertEqual(told[2][-1], (3, 1, 1, 1, 1))

    def test_few_rooms(self):
        self.assertEqual(inspector(no_words(2), 7), (7, 21, ()))
        self.assertEqual(inspector(ring(40, ()), 1), (1, 3, ()))
        self.assertEqual(inspector(empty_word(1), 1), (1, 3, ((0, 0), (0, 2), (2, 0))))
        self.assertEqual(inspector(all_words(3, (0, 2)), 1),
                         (1, 3, ((0, 0), (0, 2), (0, 3), (0, 5), (2, 0), (3, 0), (5, 0))))

    def test_the_machine_is_trimmed_but_not_made_least(self):
        self.assertEqual(inspector((1, 3, (1,), (1,), ((1, 0, 2), (2, 0, 1))), 4), inspector(EVEN, 4))
        doubled = (1, 4, (0,), (0, 2), ((0, 0, 1), (1, 0, 2), (2, 0, 3), (3, 0, 0)))
        self.refused(TooThin, 30, inspector, doubled, 4)
        self.assertEqual(inspector(doubled, 30)[1], 380)

    def test_plain_tuples_stand_in_stretches_of_one_room_only(self):
        for k, rooms, varied in ((4, 2, 5), (5, 2, 4), (15, 3, 3), (60, 3, 3), (30, 4, 3), (42, 5, 3), (60, 5, 3)):
            views = [set().union(*[cut(k - 1, cells) for cells in many_stretches(k, rooms, room, varied)])
                     for room in range(rooms)]
            for one, two in itertools.combinations(views, 2):
                self.assertFalse(one & two)


class Lines(Case):

    def test_made_lines_pass(self):
        made = 0
        for machine in SOME:
            small = trimmed(machine)
            if small[1] and few_rooms(machine):
                k = sure_from(small[1]) + CHANCES.below(8)
                told = inspector(machine, k)
                allowed = set(told[2])
                for _ in range(12):
                    line = some_line(small, k)
                    if line is not None:
                        self.assertLessEqual(cut(k, (2,) * k + line + (2,) * k), allowed)
                        if len(line) <= 6000 and len(stations(line)) <= 200:
                            self.is_true(passes(told, line))
                            self.is_true(lets(machine, stations(line)))
                            made += 1
        self.assertGreater(made, 150)

    def test_all_words_are_met_in_made_lines(self):
        for machine, k, lines in ((EVEN, 4, 900), (EVEN, 6, 900), (chain(2), 15, 600)):
            met = set()
            for _ in range(lines):
                line = some_line(trimmed(machine), k)
                if line is not None:
                    met |= cut(k, (2,) * k + line + (2,) * k)
            self.assertEqual(tuple(sorted(met)), inspector(machine, k)[2])

    def test_painted_lines_pass_others_do_not(self):
        painted = 0
        for machine in SOME:
            rooms = trimmed(machine)[1]
            if not few_rooms(machine):
                continue
            k = sure_from(rooms) + CHANCES.below(5)
            told = inspector(machine, k)
            for word in words_up_to(machine[0], 3):
                lengths = tuple(told[1] + CHANCES.below(20) for _ in range(len(word) + 1))
                try:
                    line = paint(machine, k, word, lengths)
                except NotLet:
                    continue
                self.is_true(passes(told, line))
                painted += 1
                self.check_changed(machine, told, line)
        self.assertGreater(painted, 150)

    def check_changed(self, machine, told, line):
        """With a station changed or two neighbouring stretches cut out, a line passes only if its word is let."""
        places = [at for at, cell in enumerate(line) if cell >= 3]
        for at in places:
            for cell in range(3, 7):
                changed = line[:at] + (cell,) + line[at + 1:]
                letters = stations(changed)
                let = max(letters) < machine[0] and lets(machine, letters)
                if passes(told, changed):
                    self.is_true(let)
        if places:
            for cells in (line[places[0] + 1:], line[:places[-1]], line[:places[-1] + 1] + line):
                if min(sizes(cells)) >= told[1] and passes(told, cells):
                    self.is_true(lets(machine, stations(cells)))

    def test_stations_that_are_not_let_are_found(self):
        told = inspector(EVEN, 4)
        line = paint(EVEN, 4, (0, 0), (12, 13, 14))
        self.is_true(passes(told, line))
        # One station alone, a stretch of the wrong room, a letter that is none.
        self.is_false(passes(told, line[:26]))
        self.is_false(passes(told, line[:12] + (3,) + (0,) * 13 + line[26:]))
        self.assertEqual(first_no(told, line[:12] + (4,) + line[13:]), 12)
        # The empty line does not pass.
        for machine in SOME:
            if few_rooms(machine):
                k = max(4, sure_from(trimmed(machine)[1]))
                self.assertEqual(first_no(inspector(machine, k), ()), 0)
                self.assertNotIn((2,) * (k + 1), inspector(machine, k)[2])
                self.assertNotIn((2,) * (k + 1), words_of(k, (0,)))


class Limits(Case):

    def test_6000_words_and_6001(self):
        every = set(all_moves(4, 5))
        without = {(1, 2, 0), (1, 2, 1), (3, 3, 4), (4, 0, 1), (4, 2, 1), (4, 3, 2)}
        machine = (4, 5, (1,), (2,), tuple(sorted(every - without)))
        self.assertEqual(len(inspector(machine, 60)[2]), 6000)
        self.assertEqual(inspector(machine, 60)[2], plain_words(machine, 60, 2))
        without = {(1, 1, 0), (2, 0, 0), (2, 3, 1), (4, 1, 1), (4, 2, 3), (4, 3, 0)}
        machine = (4, 5, (2,), (0,), tuple(sorted(every - without)))
        self.assertEqual(len(plain_words(machine, 60, 2)), 6001)
        self.refused(TooMany, 6000, inspector, machine, 60)
        self.refused(TooMany, 6000, inspector, (4, 5, (0, 1, 2, 3, 4), (0, 1, 2, 3, 4), tuple(sorted(every))), 60)

    def test_5_rooms_on_runs_and_6(self):
        five = ring(5, (0,))
        wide = (1, 40, (0,), (0,), five[4] + tuple((room, 0, room) for room in range(5, 40)))
        self.assertEqual(inspector(wide, 42), inspector(five, 42))
        self.refused(TooMany, 6, inspector, ring(6, (0,)), 60)
        self.refused(TooMany, 40, inspector, ring(40, (0,)), 1)

    def test_just_sure_from_and_one_less(self):
        for rooms in (2, 3, 4, 5):
            machine = ring(rooms, (0,))
            least = sure_from(rooms)
            self.assertEqual(inspector(machine, least)[:2], (least, shortest(least, rooms)))
            self.refused(TooThin, least, inspector, machine, least - 1)
            self.refused(TooThin, least, inspector, machine, 1)

    def test_the_order_of_what_is_refused(self):
        for k in (0, 61, True, None, "4", (4,), [4]):
            self.refused(BadMachine, 0, inspector, (1, 1, (1,), (), ()), k)
            self.refused(TooMany, 6, inspector, ring(6, (0,)), k)
            self.refused(BadK, 0, inspector, EVEN, k)
        self.refused(TooThin, 4, inspector, EVEN, 3)
        for thing, kind, what in WRONG_MACHINE:
            self.refused(kind, what, inspector, thing, None)


if __name__ == "__main__":
    unittest.main()
