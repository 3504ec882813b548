"""[10] to [10.3] Sure machines, and two laws."""

import itertools
import unittest

from tests.common import (EVEN, NO_NUMBERS, THIRD, Case, Chances, chain, let_words, nested, renamed, ring, two_circles,
                          words_up_to)
from undertwo.errors import BadMachine, BadRoom, TooMany, Unlike
from undertwo.machines import flipped, is_machine, lets, trimmed
from undertwo.sure import alike, classes, part_word, sure_of, way_to, within

CHANCES = Chances(1010)
SOME = [CHANCES.machine(letters, rooms, CHANCES.below(2 * rooms + 1) + 1)
        for letters in (1, 2) for rooms in (1, 2, 3) for _ in range(15)] + [
    EVEN, THIRD, flipped(THIRD), (1, 0, (), (), ()), (2, 0, (), (), ()), (2, 2, (), (0, 1), ((0, 0, 1),)),
    (2, 2, (0, 1), (), ((0, 0, 1),)), (2, 2, (0,), (0, 1), ()), (1, 1, (0,), (0,), ((0, 0, 0),)), chain(5), ring(6, (1, 3, 5))]


def room_of(sure, word):
    """The room to which the word leads in a sure machine."""
    room = sure[2][0]
    for letter in word:
        room, = [two for one, by, two in sure[4] if (one, by) == (room, letter)]
    return room


class Sure(Case):

    def check(self, machine, length):
        sure = sure_of(machine)
        self.is_true(is_machine(sure))
        self.tuples_only(sure)
        letters, rooms, starts, ends, moves = sure
        self.assertEqual((letters, starts), (machine[0], (0,)))
        # Just one move from each room by each letter.
        self.assertEqual([move[:2] for move in moves], list(itertools.product(range(rooms), range(letters))))
        # The same law.
        self.assertEqual(let_words(sure, length), let_words(machine, length), machine)
        # Numbered by meeting, and no room is there that is not met.
        numbers = [0]
        for room in range(rooms):
            self.assertLess(room, len(numbers))
            for _, _, two in moves[room * letters:(room + 1) * letters]:
                if two not in numbers:
                    self.assertEqual(two, len(numbers), machine)
                    numbers.append(two)
        self.assertEqual(numbers, list(range(rooms)))
        # The fewest rooms: some word tells any two of them apart.
        lots = [tuple(let_words((letters, rooms, (room,), ends, moves), min(rooms, length))) for room in range(rooms)]
        self.assertEqual(len(set(lots)), rooms, machine)
        return sure

    def test_held_against_the_law_on_short_words(self):
        for machine in SOME:
            self.check(machine, 7)

    def test_more_machines(self):
        for _ in range(30):
            machine = CHANCES.machine(2, 4, CHANCES.below(10) + 1)
            if sure_of(machine)[1] < 9:
                self.check(machine, 8)
        for letters in (3, 4):
            for _ in range(6):
                machine = CHANCES.machine(letters, 3, CHANCES.below(10) + 1)
                self.check(machine, 5)

    def test_it_is_the_same_for_the_same_law(self):
        for machine in SOME:
            sure = sure_of(machine)
            letters, rooms, starts, ends, moves = machine
            self.assertEqual(sure_of(sure), sure)
            self.assertEqual(sure_of(trimmed(machine)), sure)
            self.assertEqual(sure_of(flipped(flipped(sure))), sure)
            self.assertEqual(sure_of(renamed(machine, list(range(rooms))[::-1])), sure)
            # A room that nothing leads to, one from which no end can be come to, and everything twice.
            self.assertEqual(sure_of((letters, rooms + 1, starts, ends, moves + ((rooms, 0, 0),) if rooms else ())), sure)
            lost = tuple(sorted(moves + tuple((room, 0, rooms) for room in range(rooms))))
            self.assertEqual(sure_of((letters, rooms + 1, starts, ends, lost)), sure)
            twice = moves + tuple((one + rooms, by, two + rooms) for one, by, two in moves)
            double = (letters, 2 * rooms, starts + tuple(room + rooms for room in starts),
                      ends + tuple(room + rooms for room in ends), twice)
            self.assertEqual(sure_of(double), sure)

    def test_two_machines_with_unlike_laws_have_unlike_sure_machines(self):
        for one, two in itertools.combinations(SOME, 2):
            if one[0] == two[0]:
                law_of_one, law_of_two = let_words(one, 7), let_words(two, 7)
                self.assertIs(sure_of(one) == sure_of(two), law_of_one == law_of_two, (one, two))

    def test_no_starts_no_ends_no_moves(self):
        dead = (2, 1, (0,), (), ((0, 0, 0), (0, 1, 0)))
        for machine in ((2, 0, (), (), ()), (2, 3, (), (0,), ((0, 0, 1),)), (2, 3, (0,), (), ((0, 0, 1),)),
                        (2, 2, (0,), (1,), ())):
            self.assertEqual(sure_of(machine), dead)
            self.assertEqual(classes(machine), 0)
        self.assertEqual(sure_of((1, 1, (0,), (0,), ())), (1, 2, (0,), (0,), ((0, 0, 1), (1, 0, 1))))


    def test_third(self):
        words = words_up_to(2, 8)
        self.assertEqual(list(let_words(THIRD, 8)), [word for word in words if len(word) > 2 and word[-3] == 0])
        self.assertEqual((THIRD[1], sure_of(THIRD)[1]), (4, 8))
        # The rooms stand for the last three letters, as if letters 1 stood ahead.
        met = {}
        for word in words:
            met.setdefault(room_of(sure_of(THIRD), word), set()).add(((1, 1, 1) + word)[-3:])
        self.assertEqual(sorted(len(lasts) for lasts in met.values()), [1] * 8)


class Limits(Case):

    def test_just_200_lots_and_one_more(self):
        # 8 and 25 rooms go round in 200 lots; with a room ahead there are 201.
        self.assertEqual(sure_of(two_circles(8, 25, (0,))), ring(8, (0,)))
        self.assertEqual(sure_of(two_circles(8, 25, ())), (1, 1, (0,), (), ((0, 0, 0),)))
        self.refused(TooMany, 200, sure_of, two_circles(8, 25, (0,), tail=1))
        self.refused(TooMany, 200, sure_of, two_circles(8, 25, (), tail=1))
        self.assertEqual(classes(two_circles(9, 22, (0,), tail=2)), 9)
        self.refused(TooMany, 200, classes, two_circles(9, 22, (0,), tail=3))

    def test_the_empty_lot_is_counted(self):
        self.assertEqual(sure_of(two_circles(9, 22, (), blind=True))[1], 1)
        self.assertEqual(sure_of(two_circles(9, 22, (), tail=1, blind=True))[1], 1)
        self.refused(TooMany, 200, sure_of, two_circles(9, 22, (), tail=2, blind=True))
        self.refused(TooMany, 200, sure_of, two_circles(8, 25, (), blind=True))

    def test_40_rooms_and_41(self):
        self.assertEqual(sure_of(ring(40, (39,))), ring(40, (39,)))
        self.assertEqual(sure_of(chain(38))[1], 40)
        self.assertEqual(classes(chain(38)), 39)
        self.refused(TooMany, 41, sure_of, chain(39))
        # 7 and 9 rooms go round in 63 lots, all unlike in law.
        self.refused(TooMany, 63, sure_of, two_circles(7, 9, (0, 7)))
        # So many rooms are told only if there are not too many lots.
        self.refused(TooMany, 200, sure_of, two_circles(8, 25, (0, 8), tail=1))

    def test_all_functions_refuse_so(self):
        great, wide = two_circles(8, 25, (0,), tail=1), two_circles(7, 9, (0, 7))
        for machine, what in ((great, 200), (wide, 63), (chain(39), 41)):
            self.refused(TooMany, what, sure_of, machine)
            self.refused(TooMany, what, classes, machine)
            for room in (0, 99, None, True):
                self.refused(TooMany, what, way_to, machine, room)
            for action in (part_word, alike, within):
                self.refused(TooMany, what, action, machine, EVEN)
                self.refused(TooMany, what, action, EVEN, machine)
                self.refused(TooMany, what, action, machine, machine)
                self.refused(TooMany, what, action, machine, wide if machine == great else great)
                self.refused(Unlike, 0, action, machine, THIRD)
                self.refused(Unlike, 0, action, THIRD, machine)


class Ways(Case):

    def test_held_against_all_words_in_order(self):
        for machine in SOME:
            sure = sure_of(machine)
            ways = {}
            for word in words_up_to(sure[0], 6):
                ways.setdefault(room_of(sure, word), word)
            for room in range(sure[1]):
                self.assertEqual(way_to(machine, room), ways[room], (machine, room))
                self.tuples_only(way_to(machine, room))

    def test_rooms_that_are_not_there(self):
        for machine in (EVEN, THIRD, (1, 0, (), (), ())):
            rooms = sure_of(machine)[1]
            for room in (thing for thing in NO_NUMBERS + (-1, rooms, rooms + 1, 10 ** 40, nested(20))):
                self.refused(BadRoom, room, way_to, machine, room)
        # THIRD has four rooms, but its least sure machine has eight.
        self.assertEqual(way_to(THIRD, 7), (0, 1, 1))
        self.assertEqual(way_to(ring(40, (3,)), 39), (0,) * 39)

    def test_classes_are_the_rooms_from_which_an_end_can_be_come_to(self):
        for machine in SOME:
            sure = sure_of(machine)
            alive = [room for room in range(sure[1]) if let_words(sure[:2] + ((room,),) + sure[3:], sure[1])]
            self.assertEqual(classes(machine), len(alive), machine)


class TwoLaws(Case):

    def check(self, one, two, length):
        first, second = let_words(one, length), let_words(two, length)
        parts = sorted(set(first) ^ set(second), key=lambda word: (len(word), word))
        self.assertEqual(part_word(one, two), parts[0] if parts else None, (one, two))
        self.assertIs(alike(one, two), not parts, (one, two))
        self.assertIs(within(one, two), not set(first) - set(second), (one, two))

    def test_held_against_short_words(self):
        for one, two in itertools.product(SOME, repeat=2):
            if one[0] == two[0]:
                self.check(one, two, 7)
                self.check(one, sure_of(one), 7)

    def test_many_letters(self):
        for letters in (3, 4):
            some = [CHANCES.machine(letters, 3, 5) for _ in range(8)]
            for one, two in itertools.product(some, repeat=2):
                self.check(one, two, 5)

    def test_parts(self):
        some = (1, 2, (0,), (1,), ((0, 0, 1), (1, 0, 1)))
        self.assertEqual(part_word(EVEN, some), ())
        self.assertEqual(part_word(some, EVEN), ())
        self.is_true(within(EVEN, EVEN))
        self.is_false(within(EVEN, some))
        self.is_false(within(some, EVEN))
        self.is_true(within((1, 0, (), (), ()), EVEN))
        self.is_false(within(EVEN, (1, 0, (), (), ())))
        self.is_true(within(ring(4, (0,)), EVEN))
        self.is_false(within(EVEN, ring(4, (0,))))
        self.assertEqual(part_word(EVEN, ring(4, (0,))), (0, 0))
        self.tuples_only(part_word(THIRD, flipped(THIRD)))

    def test_words_of_many_letters(self):
        # Sure machines of 39 and 40 rooms: a word of 77 letters is the first that just one of them lets.
        one = ring(39, tuple(range(38)))
        two = ring(40, tuple(room for room in range(40) if room != 38))
        self.assertEqual(part_word(one, two), (0,) * 77)
        # The first one lets n letters if n + 1 divides by 39; the second one all but those with n + 1 dividing by 40.
        self.is_false(within(ring(39, (38,)), ring(40, tuple(range(39)))))
        self.is_true(within(ring(39, (38,)), (1, 1, (0,), (0,), ((0, 0, 0),))))
        self.is_false(lets(ring(40, tuple(range(39))), (0,) * 39))

    def test_the_order_of_what_is_refused(self):
        bad = (2, 3, None, (), ())
        worse = (0, 3, (), (), ())
        for action in (part_word, alike, within):
            self.refused(BadMachine, 0, action, bad, worse)
            self.refused(BadMachine, -1, action, worse, bad)
            self.refused(BadMachine, 0, action, EVEN, bad)
            self.refused(BadMachine, 0, action, chain(39), bad)
            self.refused(Unlike, 0, action, chain(39), THIRD)
            self.refused(Unlike, 0, action, EVEN, THIRD)
            self.refused(TooMany, 41, action, chain(39), two_circles(7, 9, (0, 7)))
            self.refused(TooMany, 63, action, two_circles(7, 9, (0, 7)), chain(39))


if __name__ == "__main__":
    unittest.main()
