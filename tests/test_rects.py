"""[12] and [12.1] Rectangles, and machines of rectangles."""

import itertools
import unittest

from tests.common import (EVEN, THIRD, Case, Chances, all_words, chain, empty_word, let_words, no_words, renamed, ring,
                          tail_and_ring, two_circles, words_up_to)
from undertwo.errors import BadLot, BadMachine, TooMany
from undertwo.machines import flipped, is_machine
from undertwo.rects import rect_machine, rects
from undertwo.sure import sure_of

CHANCES = Chances(1212)
# With few rooms, so that short words have all columns.
SOME = [CHANCES.machine(letters, rooms, CHANCES.below(2 * rooms + 1) + 1)
        for letters in (1, 2) for rooms in (1, 2, 3) for _ in range(20)] + [
    EVEN, THIRD, flipped(THIRD), no_words(1), no_words(2), empty_word(1), empty_word(2), all_words(1, (0,)),
    all_words(2, (0, 1)), all_words(2, (1,)), chain(3), ring(6, (1, 3)), (2, 2, (), (0,), ()), (2, 2, (1,), (), ())]


def leads(sure, room, word):
    for letter in word:
        room, = [two for one, by, two in sure[4] if (one, by) == (room, letter)]
    return room


def plain_rects(machine, length):
    """The intersections of any of the columns of all words of up to so many letters."""
    sure = sure_of(machine)
    columns = {frozenset(room for room in range(sure[1]) if leads(sure, room, word) in sure[3])
               for word in words_up_to(sure[0], length)}
    found = set()
    for many in range(1, len(columns) + 1):
        for some in itertools.combinations(columns, many):
            found.add(tuple(sorted(frozenset.intersection(*some))))
    return tuple(sorted(found - {()}, key=lambda lot: (len(lot), lot)))


def plain_rect_machine(machine, lot):
    """The machine of some rectangles, start by start, end by end and move by move."""
    letters, rooms, _, ends, moves = sure_of(machine)
    chosen = [rects(machine)[at] for at in lot]
    made = []
    for one, letter, two in itertools.product(range(len(lot)), range(letters), range(len(lot))):
        goals = [after for room, by, after in moves if by == letter and room in chosen[one]]
        if len(goals) == len(chosen[one]) and set(goals) <= set(chosen[two]):
            made.append((one, letter, two))
    return (letters, len(lot), tuple(at for at, rect in enumerate(chosen) if 0 in rect),
            tuple(at for at, rect in enumerate(chosen) if set(rect) <= set(ends)), tuple(made))


def lots(many):
    return [lot for size in range(many + 1) for lot in itertools.combinations(range(many), size)]


class Rects(Case):

    def test_held_against_the_columns_of_short_words(self):
        checked = 0
        for machine in SOME:
            if sure_of(machine)[1] <= 5:
                self.assertEqual(rects(machine), plain_rects(machine, 5 if machine[0] == 2 else 6), machine)
                self.tuples_only(rects(machine))
                checked += 1
        self.assertGreater(checked, 60)
        self.assertEqual(rects(THIRD), plain_rects(THIRD, 4))
        self.assertEqual(rects(ring(6, (1, 3))), plain_rects(ring(6, (1, 3)), 6))

    def test_three_and_four_letters(self):
        for letters in (3, 4):
            for _ in range(8):
                machine = CHANCES.machine(letters, 2, 6)
                self.assertEqual(rects(machine), plain_rects(machine, 3), machine)

    def test_third(self):
        # Rooms for the last three letters; the columns of (), (0,), (0, 0) and of all words of three letters.
        self.assertEqual(len(rects(THIRD)), 8)
        self.assertEqual(rects(THIRD)[4:], ((1, 2, 4, 6), (2, 3, 4, 5), (4, 5, 6, 7), tuple(range(8))))

    def test_edges(self):
        self.assertEqual(rects(no_words(2)), ())
        self.assertEqual(rects((2, 2, (), (0,), ())), ())
        self.assertEqual(rects((2, 2, (1,), (), ())), ())
        self.assertEqual(rects(empty_word(3)), ((0,),))
        self.assertEqual(rects(all_words(4, (0, 1, 2, 3))), ((0,),))
        self.assertEqual(rects(all_words(2, (1,))), ((0,),))
        self.assertEqual(rects(chain(3)), ((0,), (1,), (2,), (3,)))

    def test_machines_with_the_same_law_have_the_same_rectangles(self):
        for machine in SOME:
            other = renamed(machine, list(range(machine[1]))[::-1])
            self.assertEqual(rects(other), rects(machine))
            self.assertEqual(rects(sure_of(machine)), rects(machine))

    def test_12_rooms_and_13(self):
        self.assertEqual(rects(ring(12, (5,))), tuple((room,) for room in range(12)))
        self.refused(TooMany, 13, rects, ring(13, (5,)))
        self.refused(TooMany, 40, rects, ring(40, (5,)))
        # The dead room of the sure machine is counted.
        self.assertEqual(len(rects(chain(10))), 11)
        self.refused(TooMany, 13, rects, chain(11))
        # That there are too many rooms is told before that there are too many rectangles.
        self.refused(TooMany, 13, rects, ring(13, (1, 2, 4)))

    def test_12_rectangles_and_13(self):
        # Rings with single ends and with neighbouring ends: the intersections of neighbours are single rooms.
        self.assertEqual(len(rects(ring(6, (0, 1)))), 12)
        self.assertEqual(rects(ring(6, (0, 1))), plain_rects(ring(6, (0, 1)), 6))
        self.refused(TooMany, 12, rects, ring(7, (0, 1)))
        self.refused(TooMany, 12, rects, ring(12, (0, 1)))
        self.refused(TooMany, 12, rects, ring(6, (0, 1, 2)))
        # Thirteen rectangles out of six columns.
        thirteen = tail_and_ring(1, 5, (0, 1, 2))
        self.assertEqual(len(plain_rects(thirteen, 6)), 13)
        self.refused(TooMany, 12, rects, thirteen)
        # Twelve columns with rooms, and the empty one: eleven of a chain, and its rooms 0 and 5.
        steps = chain(10)[4]
        twelve = (2, 11, (0,), (10,), tuple(sorted(steps + ((0, 1, 10), (5, 1, 10)))))
        # By meeting, the fifth room of the chain has the number 7, and 4 is the room that comes to no end.
        self.assertEqual(rects(twelve), tuple((room,) for room in range(12) if room != 4) + ((0, 7),))
        more = (3, 11, (0,), (10,), tuple(sorted(twelve[4] + ((1, 2, 10), (6, 2, 10)))))
        self.assertEqual(sure_of(more)[1], 12)
        self.refused(TooMany, 12, rects, more)

    def test_what_sure_of_refuses(self):
        self.refused(TooMany, 200, rects, two_circles(8, 25, (0,), tail=1))
        self.refused(TooMany, 63, rects, two_circles(7, 9, (0, 7)))
        self.refused(TooMany, 41, rects, chain(39))
        self.refused(BadMachine, 2, rects, (1, 1, (0,), (0,), ((0, 0, 1),)))


class RectMachine(Case):

    def test_move_by_move(self):
        for machine in SOME:
            if len(rects(machine)) <= 6:
                for lot in lots(len(rects(machine))):
                    told = rect_machine(machine, lot)
                    self.assertEqual(told, plain_rect_machine(machine, lot), (machine, lot))
                    self.is_true(is_machine(told))
                    self.tuples_only(told)
        for lot in lots(8):
            self.assertEqual(rect_machine(THIRD, lot), plain_rect_machine(THIRD, lot))

    def test_no_word_too_many(self):
        for machine in SOME + [THIRD, ring(6, (0, 1))]:
            law = set(let_words(machine, 6))
            many = len(rects(machine))
            for lot in lots(many) if many <= 5 else [tuple(range(many)), tuple(range(0, many, 2))]:
                self.assertLessEqual(set(let_words(rect_machine(machine, lot), 6)), law)
            # All rectangles together let all of them.
            self.assertEqual(set(let_words(rect_machine(machine, tuple(range(many))), 6)), law)

    def test_edges(self):
        self.assertEqual(rect_machine(EVEN, ()), (1, 0, (), (), ()))
        self.assertEqual(rect_machine(no_words(3), ()), (3, 0, (), (), ()))
        self.assertEqual(rect_machine(empty_word(2), (0,)), (2, 1, (0,), (0,), ()))
        self.assertEqual(rect_machine(all_words(2, (1,)), (0,)), (2, 1, (0,), (0,), ((0, 1, 0),)))
        self.assertEqual(rect_machine(ring(12, (0,)), tuple(range(12))), ring(12, (0,)))

    def test_lots_that_are_none(self):
        bad = (True, False, None, 0, 1, "", "0", [], [0], (2,), (-1,), (True,), (False,), (0, True), (1, 0), (0, 0),
               (1, 1), (0, 1, 2), ("0",), (None,), ((0,),), ([0],), ((),), (0, 10 ** 40), (0, 1, 1), ((), ()))
        for lot in bad:
            self.refused(BadLot, 0, rect_machine, EVEN, lot)
        for lot in bad + ((0,), (0, 1)):
            if lot != ():
                self.refused(BadLot, 0, rect_machine, no_words(1), lot)
        for lot in ((0, 8), (7, 6), (0, 1, 2, 3, 4, 5, 6, 7, 8), tuple(range(8)) * 40, (0, 1, 3, 3)):
            self.refused(BadLot, 0, rect_machine, THIRD, lot)

    def test_the_order_of_what_is_refused(self):
        self.refused(BadMachine, -1, rect_machine, None, None)
        self.refused(TooMany, 200, rect_machine, two_circles(8, 25, (0,), tail=1), None)
        self.refused(TooMany, 13, rect_machine, ring(13, (5,)), (0, 0))
        self.refused(TooMany, 12, rect_machine, ring(7, (0, 1)), (0, 0))


if __name__ == "__main__":
    unittest.main()
