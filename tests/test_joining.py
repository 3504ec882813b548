"""[11] and [11.1] Joining."""

import itertools
import unittest

from tests.common import (EVEN, THIRD, Case, Chances, all_words, chain, empty_word, let_words, no_words, renamed, ring,
                          tail_and_ring, two_circles, words_up_to)
from undertwo.errors import BadMachine, TooMany, Unlike
from undertwo.joining import behind, both, butnot, either, opposite, repeated
from undertwo.machines import flipped, is_machine
from undertwo.sure import sure_of

CHANCES = Chances(1111)
SOME = [CHANCES.machine(letters, rooms, CHANCES.below(2 * rooms + 1) + 1)
        for letters in (1, 2) for rooms in (1, 2, 3, 4) for _ in range(6)] + [
    EVEN, THIRD, flipped(THIRD), no_words(1), no_words(2), empty_word(1), empty_word(2), all_words(1, (0,)),
    all_words(2, (0, 1)), all_words(2, (0,)), all_words(2, (1,)), chain(3), ring(6, (1, 3)), ring(3, (0, 1, 2)),
    (2, 3, (0, 1), (0, 2), ((0, 0, 1), (0, 1, 2), (1, 0, 0), (2, 1, 1))), (2, 2, (), (0,), ()), (2, 2, (1,), (), ())]
MANY = [CHANCES.machine(letters, 3, 6) for letters in (3, 4) for _ in range(5)] + [
    no_words(3), empty_word(4), all_words(3, (0, 2)), all_words(4, (1, 2, 3)), all_words(3, (0, 1, 2))]
TWO_BY_TWO = (either, both, butnot, behind)
DEAD = (1, 1, (0,), (), ((0, 0, 0),))
EMPTY_WORD = (1, 2, (0,), (0,), ((0, 0, 1), (1, 0, 1)))


def pairs(machines):
    return [(one, two) for one, two in itertools.product(machines, repeat=2) if one[0] == two[0]]


def in_order(words):
    return sorted(words, key=lambda word: (len(word), word))


class Words(Case):
    """The words that joined machines let, by going over the words of both."""

    def check(self, joined, words, length):
        self.is_true(is_machine(joined))
        self.tuples_only(joined)
        self.assertEqual(list(let_words(joined, length)), in_order(words), joined)
        # It has all properties of what `sure_of` returns: it is what that makes of it.
        self.assertEqual(sure_of(joined), joined)

    def check_pair(self, one, two, length):
        first, second = set(let_words(one, length)), set(let_words(two, length))
        self.check(either(one, two), first | second, length)
        self.check(both(one, two), first & second, length)
        self.check(butnot(one, two), first - second, length)
        joined = {ahead + rest for ahead in first for rest in second if len(ahead + rest) <= length}
        self.check(behind(one, two), joined, length)

    def check_one(self, one, length):
        let = let_words(one, length)
        self.check(opposite(one), set(words_up_to(one[0], length)) - set(let), length)
        found = {()}
        for many in range(length + 1):
            # The words of so many letters that are a word which is let, not an empty one, and more of them.
            found |= {ahead + word for word in let if word for ahead in found if len(ahead + word) == many}
        self.check(repeated(one), found, length)

    def test_two_laws(self):
        for one, two in pairs(SOME):
            self.check_pair(one, two, 6)

    def test_one_law(self):
        for one in SOME:
            self.check_one(one, 7)

    def test_many_letters(self):
        for one, two in pairs(MANY):
            self.check_pair(one, two, 4)
        for one in MANY:
            self.check_one(one, 4)

    def test_words_from_each_of_several_starts_to_each_end(self):
        one = (2, 4, (0, 2), (1, 3), ((0, 0, 1), (2, 1, 3)))
        two = (2, 4, (0, 1), (2, 3), ((0, 1, 2), (1, 0, 3)))
        self.check_pair(one, two, 5)
        self.check_pair(two, one, 5)
        self.check_one(one, 5)
        self.check_pair(one, empty_word(2), 5)
        self.check_pair(empty_word(2), one, 5)
        # Ends that go on, starts that are come back to, and the empty word in one of both only.
        on = (2, 2, (0,), (0, 1), ((0, 0, 1), (1, 1, 0)))
        back = (2, 2, (0,), (1,), ((0, 0, 1), (1, 1, 0)))
        for first, second in itertools.product((one, two, on, back), repeat=2):
            self.check_pair(first, second, 6)
        self.check_one(on, 7)
        self.check_one(back, 7)


class SameLaw(Case):
    """The same law, made in two ways."""

    def test_made_in_two_ways(self):
        for one, two in pairs(SOME):
            self.assertEqual(either(one, two), either(two, one))
            self.assertEqual(both(one, two), both(two, one))
            self.assertEqual(butnot(one, two), both(one, opposite(two)))
            self.assertEqual(either(one, two), opposite(both(opposite(one), opposite(two))))
            self.assertEqual(butnot(one, two), butnot(one, both(one, two)))
            self.assertEqual(flipped_law(behind(one, two)), behind(flipped(two), flipped(one)))

    def test_one_law(self):
        for one in SOME + MANY:
            letters = one[0]
            sure = sure_of(one)
            self.assertEqual(opposite(opposite(one)), sure)
            self.assertEqual(either(one, one), sure)
            self.assertEqual(both(one, one), sure)
            self.assertEqual(behind(one, empty_word(letters)), sure)
            self.assertEqual(behind(empty_word(letters), one), sure)
            self.assertEqual(either(one, no_words(letters)), sure)
            self.assertEqual(both(one, all_words(letters, range(letters))), sure)
            dead = sure_of(no_words(letters))
            self.assertEqual(butnot(one, one), dead)
            self.assertEqual(behind(one, no_words(letters)), dead)
            self.assertEqual(behind(no_words(letters), one), dead)
            self.assertEqual(repeated(repeated(one)), repeated(one))
            self.assertEqual(repeated(one), either(empty_word(letters), behind(one, repeated(one))))

    def test_other_rooms_do_not_matter(self):
        for one in SOME:
            other = renamed(one, list(range(one[1]))[::-1])
            self.assertEqual(repeated(other), repeated(one))
            self.assertEqual(opposite(other), opposite(one))
            for two in SOME[:8]:
                if two[0] == one[0]:
                    for action in TWO_BY_TWO:
                        self.assertEqual(action(other, two), action(one, two))
                        self.assertEqual(action(two, other), action(two, one))

    def test_edges(self):
        self.assertEqual(repeated(no_words(1)), EMPTY_WORD)
        self.assertEqual(repeated(empty_word(1)), EMPTY_WORD)
        self.assertEqual(opposite(no_words(2)), (2, 1, (0,), (0,), ((0, 0, 0), (0, 1, 0))))
        self.assertEqual(opposite(all_words(2, (0, 1))), (2, 1, (0,), (), ((0, 0, 0), (0, 1, 0))))
        self.assertEqual(opposite(empty_word(1)), (1, 2, (0,), (1,), ((0, 0, 1), (1, 0, 1))))
        self.assertEqual(repeated(all_words(2, (0,))),
                         (2, 2, (0,), (0,), ((0, 0, 0), (0, 1, 1), (1, 0, 1), (1, 1, 1))))
        self.assertEqual(butnot(all_words(2, (0, 1)), all_words(2, (1,))), opposite(all_words(2, (1,))))


def flipped_law(machine):
    return sure_of(flipped(machine))


class Limits(Case):

    def test_200_pairs_and_201(self):
        # n letters with n = 1 and n = 2 when divided by 5: no word in common, 200 pairs of rooms.
        one, two = ring(40, (1,)), ring(25, (2,))
        self.assertEqual(both(one, two), DEAD)
        self.assertEqual(both(two, one), DEAD)
        self.assertEqual(butnot(one, two), one)
        self.assertEqual(butnot(two, one), two)
        self.assertEqual(either(opposite(one), opposite(two)), (1, 1, (0,), (0,), ((0, 0, 0),)))
        # With a room ahead of the circle there is one pair more.
        more = tail_and_ring(1, 25, (0, 2))
        self.assertEqual(sure_of(more), more)
        for first, second in ((one, more), (more, one)):
            for action in (either, both, butnot):
                self.refused(TooMany, 200, action, first, second)
        # Many more pairs are no other matter.
        self.refused(TooMany, 200, both, ring(40, (1,)), ring(39, (1,)))

    def test_40_rooms_and_41(self):
        self.assertEqual(both(ring(5, (0,)), ring(8, (0,))), ring(40, (0,)))
        self.assertEqual(opposite(either(opposite(ring(5, (0,))), opposite(ring(8, (0,))))), ring(40, (0,)))
        longer = tail_and_ring(1, 5, (0, 2))
        self.assertEqual(sure_of(longer), longer)
        self.refused(TooMany, 41, either, longer, ring(8, (1,)))
        self.refused(TooMany, 41, both, longer, ring(8, (0,)))
        self.refused(TooMany, 41, butnot, longer, ring(8, (1,)))
        self.refused(TooMany, 195, either, ring(13, (0,)), ring(15, (0,)))
        self.assertEqual(behind(chain(19), chain(19)), sure_of(chain(38)))
        self.assertEqual(behind(chain(19), chain(19))[1], 40)
        self.refused(TooMany, 41, behind, chain(20), chain(19))
        # Any number of fives and elevens: from 40 letters on each number of letters is such a sum.
        five_or_eleven = (1, 17, (0,), (5, 16), tuple(sorted(
            chain(5)[4] + ((0, 0, 6),) + tuple((room, 0, room + 1) for room in range(6, 16)))))
        self.refused(TooMany, 41, repeated, five_or_eleven)
        self.assertEqual(repeated(ring(40, (0,))), ring(40, (0,)))
        self.assertEqual(opposite(chain(38))[1:4], (40, (0,), tuple(range(38)) + (39,)))
        self.refused(TooMany, 41, opposite, chain(39))

    def test_the_machine_of_the_whole_may_have_more_than_40_rooms(self):
        self.assertEqual(behind(ring(40, (0,)), ring(40, (0,))), ring(40, (0,)))
        self.assertEqual(behind(ring(40, (7,)), ring(40, (5,))), ring(40, (12,)))
        self.assertEqual(behind(ring(40, (39,)), empty_word(1)), ring(40, (39,)))
        self.assertEqual(behind(empty_word(1), ring(40, (39,))), ring(40, (39,)))
        self.assertEqual(repeated(ring(40, (8,))), ring(8, (0,)))
        # The least sure machine of the first one alone would have 41 rooms.
        self.assertEqual(behind(chain(39), all_words(1, (0,))), tail_and_ring(39, 1, (39,)))
        self.assertEqual(behind(all_words(1, (0,)), chain(39)), tail_and_ring(39, 1, (39,)))
        self.assertEqual(repeated(chain(39)), ring(39, (0,)))

    def test_200_lots_and_201(self):
        self.assertEqual(behind(two_circles(8, 25, ()), empty_word(1)), DEAD)
        self.assertEqual(behind(two_circles(8, 25, (0,)), empty_word(1)), ring(8, (0,)))
        self.refused(TooMany, 200, behind, two_circles(8, 25, (), tail=1), empty_word(1))
        self.refused(TooMany, 200, behind, two_circles(8, 25, (0,), tail=1), empty_word(1))
        # The second one's rooms are met from the start if the first one lets the empty word.
        self.assertEqual(behind(empty_word(1), two_circles(9, 22, (), tail=2)), DEAD)
        self.refused(TooMany, 200, behind, empty_word(1), two_circles(9, 22, (), tail=3))
        # The one room more is in the first lot alone.
        self.assertEqual(repeated(two_circles(9, 22, (), tail=2)), EMPTY_WORD)
        self.refused(TooMany, 200, repeated, two_circles(9, 22, (), tail=3))
        self.refused(TooMany, 200, repeated, two_circles(8, 25, ()))
        # The empty lot is counted: a second letter has no moves.
        self.assertEqual(repeated(two_circles(9, 22, (), tail=1, blind=True))[1], 2)
        self.refused(TooMany, 200, repeated, two_circles(9, 22, (), tail=2, blind=True))
        self.refused(TooMany, 200, opposite, two_circles(8, 25, (), tail=1))
        self.assertEqual(opposite(two_circles(8, 25, ())), (1, 1, (0,), (0,), ((0, 0, 0),)))

    def test_what_each_sure_machine_refuses_comes_first(self):
        great, wide, dead = two_circles(8, 25, (0,), tail=1), two_circles(7, 9, (0, 7)), no_words(1)
        for action in (either, both, butnot):
            for machine, what in ((great, 200), (wide, 63), (chain(39), 41)):
                self.refused(TooMany, what, action, machine, dead)
                self.refused(TooMany, what, action, dead, machine)
            self.refused(TooMany, 63, action, wide, great)
            self.refused(TooMany, 200, action, great, wide)
            self.refused(TooMany, 41, action, chain(39), wide)

    def test_the_order_of_what_is_refused(self):
        bad = (2, 3, None, (), ())
        worse = (0, 3, (), (), ())
        for action in TWO_BY_TWO:
            self.refused(BadMachine, 0, action, bad, worse)
            self.refused(BadMachine, -1, action, worse, bad)
            self.refused(BadMachine, 0, action, EVEN, bad)
            self.refused(BadMachine, 0, action, two_circles(8, 25, (), tail=1), bad)
            self.refused(Unlike, 0, action, two_circles(8, 25, (), tail=1), THIRD)
            self.refused(Unlike, 0, action, THIRD, two_circles(8, 25, (), tail=1))
            self.refused(Unlike, 0, action, no_words(3), no_words(4))


if __name__ == "__main__":
    unittest.main()
