"""[24] The room of a view."""

import itertools
import unittest

from tests.common import (EVEN, THIRD, WRONG_MACHINE, Case, Chances, all_words, chain, empty_word, nested, no_words,
                          ring)
from tests.test_madewords import cut, many_stretches, some_stretch
from undertwo.errors import BadK, BadMachine, BadView, TooMany, TooThin
from undertwo.machines import trimmed
from undertwo.madewords import inspector
from undertwo.prices import sure_from
from undertwo.seen import room_seen

CHANCES = Chances(24)


def views_of_rooms(k, rooms, varied):
    """For each room the views that stand in its stretches, cut out of many of them."""
    return [set().union(*[cut(k - 1, cells) for cells in many_stretches(k, rooms, room, varied)])
            for room in range(rooms)]


class Seen(Case):

    def test_all_views(self):
        for machine, k, varied in ((EVEN, 4, 6), (EVEN, 5, 6), (EVEN, 6, 5), (EVEN, 9, 4), (EVEN, 12, 3),
                                   ((1, 2, (0,), (1,), ((0, 0, 1), (1, 0, 1))), 5, 6)):
            rooms = views_of_rooms(k, trimmed(machine)[1], varied)
            for view in itertools.product((0, 1), repeat=k):
                wanted = [room for room, views in enumerate(rooms) if view in views]
                self.assertLessEqual(len(wanted), 1)
                self.assertEqual(room_seen(machine, k, view), wanted[0] if wanted else None, (k, view))

    def test_each_view_of_more_rooms(self):
        for machine, k, varied in ((ring(3, (0,)), 15, 3), (ring(3, (0,)), 22, 3), (chain(3), 30, 3), (THIRD, 33, 2),
                                   (ring(5, (1,)), 42, 2), (ring(5, (1,)), 60, 2)):
            number = trimmed(machine)[1]
            rooms = views_of_rooms(k, number, varied)
            for room, views in enumerate(rooms):
                for view in sorted(views)[::7]:
                    self.assertEqual(room_seen(machine, k, view), room)
                    # With one cell turned about it stands in the same room, in another one, or in none.
                    at = CHANCES.below(k)
                    other = view[:at] + (1 - view[at],) + view[at + 1:]
                    wanted = [each for each in range(number) if other in rooms[each]]
                    self.assertEqual(room_seen(machine, k, other), wanted[0] if wanted else None)

    def test_views_of_some_stretches(self):
        for rooms in (2, 3, 4, 5):
            machine = ring(rooms, (0,))
            k = sure_from(rooms) + CHANCES.below(60 - sure_from(rooms) + 1)
            for room in range(rooms):
                cells = some_stretch(k, rooms, room)
                for at in range(0, len(cells) - k + 1, 1 + len(cells) // 40):
                    told = room_seen(machine, k, cells[at:at + k])
                    self.assertEqual(told, room)
                    self.assertIs(type(told), int)
                self.assertEqual(room_seen(machine, k, cells[-k:]), room)

    def test_it_agrees_with_the_inspector(self):
        for machine, k in ((EVEN, 7), (ring(3, (0,)), 15), (chain(3), 31)):
            plain = {cells for word in inspector(machine, k)[2] if max(word) <= 1 for cells in (word[:-1], word[1:])}
            for view in plain:
                self.assertIsNotNone(room_seen(machine, k, view))
            for _ in range(100):
                view = tuple(CHANCES.below(2) for _ in range(k))
                self.assertIs(room_seen(machine, k, view) is not None, view in plain)

    def test_few_rooms(self):
        for k in (1, 2, 5):
            for view in itertools.product((0, 1), repeat=k):
                for machine in (empty_word(1), all_words(3, (0, 2)), (1, 2, (0,), (0,), ((0, 0, 1),))):
                    self.assertEqual(room_seen(machine, k, view), None if sum(view) else 0)
                self.assertIsNone(room_seen(no_words(2), k, view))
                self.assertIsNone(room_seen(ring(40, ()), k, view))

    def test_the_machine_is_trimmed(self):
        wide = (1, 40, (3,), (9,), ((3, 0, 9), (5, 0, 3), (9, 0, 9), (9, 0, 11)))
        small = (1, 2, (0,), (1,), ((0, 0, 1), (1, 0, 1)))
        for view in itertools.product((0, 1), repeat=4):
            self.assertEqual(room_seen(wide, 4, view), room_seen(small, 4, view))


class Limits(Case):

    def test_just_sure_from_and_one_less(self):
        for rooms in (2, 3, 4, 5):
            least = sure_from(rooms)
            self.assertEqual(room_seen(ring(rooms, (0,)), least, (0,) * least), 0)
            self.refused(TooThin, least, room_seen, ring(rooms, (0,)), least - 1, (0,) * (least - 1))
            self.refused(TooThin, least, room_seen, ring(rooms, (0,)), 1, (1,))

    def test_5_rooms_on_runs_and_6(self):
        five = ring(5, (0,))
        wide = (1, 40, (0,), (0,), five[4] + tuple((room, 0, room) for room in range(5, 40)))
        self.assertEqual(room_seen(wide, 42, (0,) * 42), 0)
        self.refused(TooMany, 6, room_seen, ring(6, (0,)), 60, (0,) * 60)
        self.refused(TooMany, 40, room_seen, ring(40, (0,)), 1, (0,))

    def test_the_order_of_what_is_refused(self):
        for view in (None, True, 0, "0000", [0, 0, 0, 0], (0,) * 3, (0,) * 5, (0, 0, 0, 2), (0, 0, 0, True),
                     (0, 0, False, 0), ((0,),) * 4, nested(20), (0, 0, 0, 3)):
            self.refused(BadView, 0, room_seen, EVEN, 4, view)
            self.refused(TooMany, 6, room_seen, ring(6, (0,)), 0, view)
            for k in (0, 61, True, None, "4", (4,), [4]):
                self.refused(BadK, 0, room_seen, EVEN, k, view)
                self.refused(TooMany, 6, room_seen, ring(6, (0,)), k, view)
                self.refused(BadMachine, 0, room_seen, (1, 1, (1,), (), ()), k, view)
        # The view is looked at before k is held against the rooms.
        self.refused(BadView, 0, room_seen, EVEN, 3, (0, 0))
        self.refused(TooThin, 4, room_seen, EVEN, 3, (0, 0, 0))
        for thing, kind, what in WRONG_MACHINE:
            self.refused(kind, what, room_seen, thing, None, None)


if __name__ == "__main__":
    unittest.main()
