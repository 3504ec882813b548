"""[14] to [14.2] Fools."""

import itertools
import unittest

from tests.common import (EVEN, NO_TUPLES, THIRD, Case, Chances, all_words, chain, empty_word, nested, no_words, ring,
                          tail_and_ring, two_circles, words_up_to)
from undertwo.errors import BadMachine, Refused, TooMany
from undertwo.fools import fool_right, fools
from undertwo.leastrooms import least_rooms
from undertwo.machines import flipped
from undertwo.sure import sure_of, way_to

CHANCES = Chances(1414)
SOME = [CHANCES.machine(letters, rooms, CHANCES.below(2 * rooms + 1) + 1)
        for letters in (1, 2, 3) for rooms in (1, 2, 3, 4) for _ in range(10)] + [
    EVEN, THIRD, flipped(THIRD), no_words(1), no_words(2), empty_word(1), empty_word(2), all_words(1, (0,)),
    all_words(2, (0, 1)), all_words(2, (1,)), chain(3), ring(6, (1, 3)), ring(8, (0, 3)), (2, 2, (), (0,), ()),
    (2, 2, (1,), (), ()), tail_and_ring(2, 3, (0, 3)), ring(6, (0, 1)), tail_and_ring(3, 5, (0, 1, 2, 6)), chain(6)]


def lets_at_length(machine, word):
    """Whether the machine lets the word, which may have any number of letters."""
    rooms = set(machine[2])
    for letter in word:
        rooms = {two for one, by, two in machine[4] if by == letter and one in rooms}
    return bool(rooms & set(machine[3]))


def plain_right(machine, pairs):
    """All pairs asked by twos, at unlike places, and each by itself."""
    for past, future in pairs:
        if not lets_at_length(machine, past + future):
            return False
    for (past, future), (other, ahead) in itertools.combinations(pairs, 2):
        if lets_at_length(machine, past + ahead) and lets_at_length(machine, other + future):
            return False
    return True


def room_by(sure, word, room=0):
    for letter in word:
        room, = [two for one, by, two in sure[4] if (one, by) == (room, letter)]
    return room


def plain_futures(sure):
    """The least words of all unlike columns, out of all words in order."""
    found = {}
    length = 0
    while True:
        many = len(found)
        for word in itertools.product(range(sure[0]), repeat=length):
            column = frozenset(room for room in range(sure[1]) if room_by(sure, word, room) in sure[3])
            found.setdefault(column, word)
        if len(found) == many:
            # A longest word has, behind its first letter, the least word of another column.
            return list(found.values())
        length += 1


def plain_fools(machine):
    """Of all fools of pasts and futures one with the most pairs, with the least tuple of pairs of numbers."""
    sure = sure_of(machine)
    pasts = [way_to(machine, room) for room in range(sure[1])]
    futures = plain_futures(sure)
    grid = [[lets_at_length(machine, past + future) for future in futures] for past in pasts]
    every = [(past, future) for past in range(len(pasts)) for future in range(len(futures)) if grid[past][future]]
    most = [()]
    while most:
        best = most
        most = [numbers + (pair,) for numbers in best for pair in every
                if (not numbers or pair > numbers[-1])
                and not any(grid[one][pair[1]] and grid[pair[0]][two] for one, two in numbers)]
    return tuple((pasts[past], futures[future]) for past, future in min(best))


def good(machine):
    try:
        fools(machine)
    except Refused:
        return False
    return True


class Right(Case):

    def test_held_against_all_pairs(self):
        told = {True: 0, False: 0}
        for machine in SOME:
            words = words_up_to(machine[0], 3 if machine[0] < 3 else 2)
            let = [(past, future) for past in words for future in words if lets_at_length(machine, past + future)]
            for _ in range(60):
                source = let if let and CHANCES.below(6) else [(past, future) for past in words for future in words]
                pairs = tuple(source[CHANCES.below(len(source))] for _ in range(CHANCES.below(5)))
                right = plain_right(machine, pairs)
                self.assertIs(fool_right(machine, pairs), right, (machine, pairs))
                told[right] += 1
        self.assertGreater(min(told.values()), 500)

    def test_just_one_of_both_may_be_let(self):
        # Words of two letters or more: () goes on with two letters, (0,) with one, (0, 0) with none.
        machine = tail_and_ring(2, 1, (2,))
        pairs = (((), (0, 0)), ((0,), (0,)), ((0, 0), ()))
        self.is_true(fool_right(machine, pairs))
        self.is_true(fool_right(machine, pairs[::-1]))
        self.is_true(fool_right(machine, pairs[:2]))
        self.is_false(fool_right(machine, pairs + (((0, 0, 0), ()),)))
        self.is_false(fool_right(machine, (((), (0, 0)), ((), (0, 0, 0)))))
        self.is_false(fool_right(machine, (((), (0,)),)))
        self.is_true(fool_right(machine, (((), (0, 0)),)))

    def test_pairs_that_stand_twice(self):
        for machine in SOME:
            if good(machine) and fools(machine):
                fool = fools(machine)
                self.is_true(fool_right(machine, fool))
                for pair in fool:
                    self.is_false(fool_right(machine, fool + (pair,)))
                    self.is_false(fool_right(machine, (pair, pair)))
                    self.is_true(fool_right(machine, (pair,)))
                    self.is_true(fool_right(machine, tuple(other for other in fool if other != pair)))

    def test_the_empty_fool(self):
        for machine in SOME:
            self.is_true(fool_right(machine, ()))
        self.is_false(fool_right(no_words(1), (((), ()),)))
        self.is_true(fool_right(empty_word(1), (((), ()),)))
        self.is_false(fool_right(empty_word(1), (((0,), ()),)))
        self.is_false(fool_right(empty_word(1), (((), (0,)),)))

    def test_200_letters_and_201(self):
        long, odd, longer = (0,) * 200, (0,) * 199, (0,) * 201
        # A past and a future together may have more than 200 letters.
        self.is_true(fool_right(EVEN, ((long, long), (odd, odd))))
        self.is_true(fool_right(EVEN, ((long, ()), (odd, odd))))
        self.is_true(fool_right(EVEN, (((), long), (odd, (0,)))))
        self.is_false(fool_right(EVEN, ((long, odd),)))
        self.is_false(fool_right(EVEN, ((longer, odd),)))
        self.is_false(fool_right(EVEN, ((odd, longer),)))
        self.is_false(fool_right(EVEN, ((longer + (0,), ()),)))
        self.is_true(fool_right(ring(40, (0,)), tuple(((0,) * at, (0,) * (200 - at)) for at in range(40))))
        self.is_true(fool_right(ring(40, (0,)), tuple(((0,) * (200 - at), (0,) * (160 + at)) for at in range(40))))
        self.is_false(fool_right(ring(40, (0,)), tuple(((0,) * at, (0,) * (200 - at)) for at in range(41))))

    def test_no_fool_has_more_pairs_than_the_machine_has_rooms(self):
        for machine in SOME:
            if good(machine):
                self.assertLessEqual(len(fools(machine)), machine[1])

    def test_things_that_are_none(self):
        for thing in NO_TUPLES + (
                [((), ())], ((),), (((),),), (((), (), ()),), ([(), ()],), (([], ()),), (((), []),), (None,), (0,),
                (True,), ("",), (("", ""),), ((0, 0),), (((0,), 0),), ((0, (0,)),), (((True,), (0,)),),
                (((0,), (True,)),), (((False,), (0,)),), (((1,), (1,)),), (((0,), (0,)), None), (((-1,), (0,)),),
                (((0,), (None,)),), ((("0",), (0,)),), ((((0,),), (0,)),), ((((),), ()),), ((nested(18), ()),),
                nested(20), (None,) * 100, (((0,), (0,)), [(), ()]), (((), ()),) * 300, ((None, None),)):
            self.is_false(fool_right(EVEN, thing))
            self.is_false(fool_right(no_words(1), thing))
        self.is_true(fool_right(EVEN, (((0,), (0,)), ((), ()))))

    def test_a_wrong_machine_is_refused_also_by_the_judge(self):
        for thing in ((), None, (((), ()),)):
            self.refused(BadMachine, -1, fool_right, None, thing)
            self.refused(BadMachine, 2, fool_right, (1, 1, (0,), (0,), ((0, 1, 0),)), thing)

    def test_machines_whose_least_sure_machine_is_too_great(self):
        machine = two_circles(8, 25, (0,), tail=1)
        for pairs in ((((0,), ()), ((), (0,) * 9)), (((0,), ()),), (((), (0,) * 10),)):
            self.assertIs(fool_right(machine, pairs), plain_right(machine, pairs))
        self.is_true(fool_right(chain(39), (((), (0,) * 39), ((0,), (0,) * 38))))


class OneFool(Case):

    def test_held_against_all_fools_of_pasts_and_futures(self):
        checked = 0
        for machine in SOME:
            if good(machine):
                fool = fools(machine)
                self.assertEqual(fool, plain_fools(machine), machine)
                self.is_true(fool_right(machine, fool))
                self.is_true(plain_right(machine, fool))
                self.assertLessEqual(len(fool), least_rooms(machine))
                self.tuples_only(fool)
                checked += 1
        self.assertGreater(checked, 100)

    def test_fewer_pairs_than_rooms(self):
        # One letter, or an even number of them.
        machine = tail_and_ring(2, 2, (0, 1, 2))
        self.assertEqual(fools(machine), (((), (0,)), ((0,), (0, 0, 0)), ((0, 0), ())))
        self.assertEqual(fools(machine), plain_fools(machine))
        self.assertEqual(least_rooms(machine), 4)

    def test_edges(self):
        self.assertEqual(fools(no_words(3)), ())
        self.assertEqual(fools((2, 2, (), (0,), ())), ())
        self.assertEqual(fools(empty_word(2)), (((), ()),))
        self.assertEqual(fools(all_words(4, (0, 1, 2, 3))), (((), ()),))
        self.assertEqual(fools(all_words(2, (1,))), (((), ()),))
        self.assertEqual(fools(chain(2)), (((), (0, 0)), ((0,), (0,)), ((0, 0), ())))

    def test_8_rooms_and_9(self):
        self.assertEqual(fools(ring(8, (0,))),
                         (((), ()),) + tuple(((0,) * at, (0,) * (8 - at)) for at in range(1, 8)))
        self.refused(TooMany, 9, fools, ring(9, (0,)))
        self.assertEqual(len(fools(chain(6))), 7)
        self.refused(TooMany, 9, fools, chain(7))
        self.refused(TooMany, 12, fools, ring(12, (0,)))

    def test_what_rects_refuses_comes_first(self):
        self.refused(TooMany, 13, fools, ring(13, (0,)))
        self.refused(TooMany, 12, fools, ring(7, (0, 1)))
        self.refused(TooMany, 12, fools, ring(9, (0, 1)))
        self.refused(TooMany, 200, fools, two_circles(8, 25, (0,), tail=1))
        self.refused(TooMany, 41, fools, chain(39))


if __name__ == "__main__":
    unittest.main()
