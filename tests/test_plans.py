"""[16] to [16.3] Plans, codes, stretches and sizes."""

import unittest

from tests.common import NO_NUMBERS, Case, nested, wrong_numbers
from undertwo.errors import BadK, BadMany, BadRoom, BadSize, TooThin
from undertwo.maker import thin_rows
from undertwo.plans import code, plan, shortest, stretch
from undertwo.prices import code_size, sure_from

GOOD = [(k, rooms) for k in range(1, 61) for rooms in range(6) if k >= sure_from(rooms)]
SOME = [(1, 0), (60, 0), (1, 1), (9, 1), (4, 2), (5, 2), (6, 2), (7, 2), (23, 2), (60, 2), (15, 3), (16, 3), (17, 3),
        (60, 3), (30, 4), (31, 4), (59, 4), (42, 5), (43, 5), (60, 5)]
NO_ROOMS = wrong_numbers(0, 5, BadMany)


def plain_shortest(k, rooms):
    c = code_size(rooms)
    found = [3 * k]
    for kind, one, two in plan(k, rooms):
        if kind == "middle":
            units = max(1, -(-(two - 4) // 3))
            found.append(2 * c - 1 + 2 * one + units * (two - 3))
        else:
            units = max(1, -(-(one + two - 4) // 3))
            found.append(2 * c - 1 + one + units * (one + two - 3))
    return max(found)


def read_back(k, rooms, room, cells):
    """The units of a stretch, told by how much the first gap of each is made less: gap by gap."""
    own = code(rooms, room)
    c = len(own)
    assert cells[:c] == own[::-1] and cells[len(cells) - c:] == own
    dots = [at for at in range(c - 1, len(cells) - c + 1) if cells[at] == 1]
    gaps = [two - one for one, two in zip(dots, dots[1:])]
    kind, one, two = plan(k, rooms)[room - 1]
    assert gaps[0] == one
    if kind == "middle":
        assert gaps[-1] == one
        return [two - gap for gap in gaps[1:-1]]
    assert len(gaps) % 2 == 1 and all(gap == one for gap in gaps[::2])
    return [two - gap for gap in gaps[1::2]]


class Plans(Case):

    def test_entries_are_those_of_thin_rows(self):
        for k, rooms in GOOD:
            told = plan(k, rooms)
            self.tuples_only(told)
            self.assertEqual(len(told), max(0, rooms - 1))
            if rooms > 1:
                rows = thin_rows(k, (k // (2 * rooms - 3),) * (rooms - 1))
                self.assertEqual(told[0], ("middle", rows[0][0] - code_size(rooms) - 2, rows[0][0]))
                self.assertEqual(told[1:], tuple(("side", b, a) for a, b in rows[1:]))
                # All gaps are there: none is less than 1, also if 3 is taken away.
                self.assertGreaterEqual(told[0][1], 1)
                self.assertGreaterEqual(min(entry[2] for entry in told), 4)

    def test_rooms_of_all_numbers(self):
        self.assertEqual((plan(1, 0), plan(60, 0), plan(1, 1), plan(60, 1)), ((), (), (), ()))
        self.assertEqual(plan(60, 2), (("middle", 57, 60),))
        self.assertEqual(plan(42, 5), (("middle", 19, 24), ("side", 6, 42), ("side", 12, 36), ("side", 18, 30)))

    def test_just_sure_from_and_one_less(self):
        for rooms in range(2, 6):
            least = sure_from(rooms)
            self.assertEqual(len(plan(least, rooms)), rooms - 1)
            for k in (least - 1, 1):
                self.refused(TooThin, least, plan, k, rooms)
                self.refused(TooThin, least, shortest, k, rooms)
                self.refused(TooThin, least, stretch, k, rooms, 0, 100)
                self.refused(TooThin, least, stretch, k, rooms, None, None)

    def test_5_rooms_and_6(self):
        for rooms, kind, what in NO_ROOMS:
            self.refused(kind, what, plan, 60, rooms)
            self.refused(kind, what, shortest, 60, rooms)
            self.refused(kind, what, stretch, 60, rooms, 0, 1000)
            for action in (plan, shortest):
                self.refused(BadK, 0, action, 61, rooms)
        self.refused(BadMany, 0, plan, 1, 6)


class Codes(Case):

    def test_all_codes(self):
        self.assertEqual([code(2, 1)], [(1,)])
        self.assertEqual([code(3, room) for room in (1, 2)], [(1, 0), (1, 1)])
        self.assertEqual([code(4, room) for room in (1, 2, 3)], [(1, 0, 0), (1, 1, 0), (1, 0, 1)])
        self.assertEqual([code(5, room) for room in (1, 2, 3, 4)], [(1, 0, 0), (1, 1, 0), (1, 0, 1), (1, 1, 1)])
        self.tuples_only(code(5, 4))

    def test_wrong_ones(self):
        for rooms, kind, what in wrong_numbers(2, 5, BadMany):
            self.refused(kind, what, code, rooms, 1)
            self.refused(kind, what, code, rooms, None)
        for rooms in range(2, 6):
            for room in NO_NUMBERS + (0, -1, rooms, 10 ** 40, nested(20)):
                self.refused(BadRoom, room, code, rooms, room)


class Sizes(Case):

    def test_shortest(self):
        for k, rooms in GOOD:
            self.assertEqual(shortest(k, rooms), plain_shortest(k, rooms))
        self.assertEqual([shortest(k, 0) for k in (1, 60)], [3, 180])
        self.assertEqual([shortest(k, 1) for k in (1, 60)], [3, 180])
        # 3k is the greatest of the numbers, then not any more.
        self.assertEqual((shortest(4, 2), shortest(60, 2)), (12, 1198))

    def test_each_size_from_the_shortest_on(self):
        for k, rooms in SOME:
            least = shortest(k, rooms)
            for room in range(max(1, rooms)):
                for size in list(range(least, least + 130)) + [3000, 4999, 5000]:
                    cells = stretch(k, rooms, room, size)
                    self.assertEqual(len(cells), size)
                    if room == 0:
                        self.assertEqual(cells, (0,) * size)
                    else:
                        self.check_units(k, rooms, room, cells)
                self.tuples_only(cells)

    def check_units(self, k, rooms, room, cells):
        less = read_back(k, rooms, room, cells)
        self.assertGreater(len(less), 0)
        # In the first units 3, then what is left, then 0.
        self.assertEqual(less, [3] * less.count(3) + sorted(less[less.count(3):], reverse=True))
        self.assertTrue(all(0 <= by <= 3 for by in less))
        self.assertLessEqual(len([by for by in less if by in (1, 2)]), 1)
        # One unit fewer would not do, or there is one alone.
        kind, one, two = plan(k, rooms)[room - 1]
        unit = two if kind == "middle" else one + two
        self.assertTrue(len(less) == 1 or sum(less) < unit)

    def test_no_unit_one_unit_and_all_units_made_less(self):
        # k = 4: 1, then units of 4, then 1; one code cell at each end.
        self.assertEqual([read_back(4, 2, 1, stretch(4, 2, 1, size)) for size in (15, 14, 13, 12)],
                         [[0, 0, 0], [1, 0, 0], [2, 0, 0], [3, 0, 0]])
        self.assertEqual(read_back(4, 2, 1, stretch(4, 2, 1, 16)), [3, 0, 0, 0])
        # k = 15: all units of 20 made less; at 110 cells, the shortest, they are so in room 2.
        self.assertEqual(read_back(15, 3, 2, stretch(15, 3, 2, 110)), [3] * 6)
        self.assertEqual(read_back(15, 3, 2, stretch(15, 3, 2, 128)), [0] * 6)
        self.assertEqual(read_back(15, 3, 2, stretch(15, 3, 2, 111)), [3] * 5 + [2])
        self.assertEqual(read_back(15, 3, 2, stretch(15, 3, 2, 127)), [1] + [0] * 5)

    def test_the_shortest_size_and_one_less_5000_and_5001(self):
        for k, rooms in SOME:
            least = shortest(k, rooms)
            for room in range(max(1, rooms)):
                self.assertEqual(len(stretch(k, rooms, room, least)), least)
                for size in (least - 1, 5001, 0, -1, 10 ** 40) + NO_NUMBERS + (nested(20),):
                    self.refused(BadSize, least, stretch, k, rooms, room, size)

    def test_rooms_that_are_not_there(self):
        for rooms, k in ((0, 4), (1, 4), (2, 4), (3, 15), (4, 30), (5, 42)):
            for room in NO_NUMBERS + (-1, max(1, rooms), 6, 10 ** 40):
                self.refused(BadRoom, room, stretch, k, rooms, room, 5000)
                self.refused(BadRoom, room, stretch, k, rooms, room, None)
        self.assertEqual(stretch(4, 0, 0, 12), (0,) * 12)
        self.assertEqual(stretch(4, 1, 0, 12), (0,) * 12)

    def test_the_order_of_what_is_refused(self):
        self.refused(BadK, 0, stretch, 0, 6, 9, 0)
        self.refused(BadMany, 0, stretch, 1, 6, 9, 0)
        self.refused(TooThin, 4, stretch, 3, 2, 9, 0)
        self.refused(BadRoom, 9, stretch, 4, 2, 9, 0)
        self.refused(BadSize, 12, stretch, 4, 2, 1, 11)


if __name__ == "__main__":
    unittest.main()
