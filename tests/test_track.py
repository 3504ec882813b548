"""[24.1] to [24.5] Tracks: painted lines under edits."""

import inspect
import unittest

from tests.common import (EVEN, NO_NUMBERS, THIRD, WRONG_K, WRONG_LENGTHS_OF_3, WRONG_MACHINE, WRONG_WORD_OF_2, Case,
                          Chances, all_words, chain, empty_word, nested, no_words, ring)
from undertwo.errors import (BadAt, BadK, BadLengths, BadLetter, BadMachine, BadPlace, BadSize, BadWord, NothingAgain,
                             NothingBack, NotLet, Refused, Short, TooLong, TooMany, TooThin)
from undertwo.inspectors import passes
from undertwo.machines import first_run, trimmed
from undertwo.madewords import inspector
from undertwo.painter import paint
from undertwo.plans import shortest
from undertwo.prices import sure_from
from undertwo.seen import room_seen
from undertwo.track import Track

CHANCES = Chances(241)
SOME = (1, 2, (0,), (1,), ((0, 0, 1), (1, 0, 1)))
# Words in which each 0 is followed by 1 before the next 0, and 1 only behind 0; 2 letters of three.
OPENED = (3, 2, (0,), (0,), ((0, 0, 1), (0, 2, 0), (1, 1, 0), (1, 2, 1)))
METHODS = {"line": (), "word": (), "lengths": (), "rooms": (), "put": ("at", "letter", "left"), "drop": ("at",),
           "resize": ("at", "size"), "back": (), "again": (), "wiped": ("place",), "seen": ("place",)}


def cut_up(line):
    """The plain stretches of the line."""
    found = [[]]
    for cell in line:
        if cell > 2:
            found.append([])
        else:
            found[-1].append(cell)
    return found


class Model:
    """What a track must be: all states that were, each as a word and lengths, and which one is now."""

    def __init__(self, machine, k, word, lengths):
        self.machine, self.k = machine, k
        self.states = [(word, lengths)]
        self.now = 0

    def painted(self):
        return paint(self.machine, self.k, *self.states[self.now])

    def edited(self, word, lengths):
        """Does an edit if it can be painted; returns how many stretches are repainted."""
        before = cut_up(self.painted())
        after = cut_up(paint(self.machine, self.k, word, lengths))
        self.states = self.states[:self.now + 1] + [(word, lengths)]
        self.states = self.states[-51:]
        self.now = len(self.states) - 1
        return sum(1 for at, cells in enumerate(after) if before[at:at + 1] != [cells])

    def put(self, at, letter, left):
        word, lengths = self.states[self.now]
        size = lengths[at]
        return self.edited(word[:at] + (letter,) + word[at:],
                           lengths[:at] + (left, size - 1 - left) + lengths[at + 1:])

    def drop(self, at):
        word, lengths = self.states[self.now]
        return self.edited(word[:at] + word[at + 1:],
                           lengths[:at] + (lengths[at] + 1 + lengths[at + 1],) + lengths[at + 2:])

    def resize(self, at, size):
        word, lengths = self.states[self.now]
        return self.edited(word, lengths[:at] + (size,) + lengths[at + 1:])

    def back(self):
        if self.now == 0:
            raise NothingBack(0)
        self.now -= 1
        return self.states[self.now][0]

    def again(self):
        if self.now == len(self.states) - 1:
            raise NothingAgain(0)
        self.now += 1
        return self.states[self.now][0]


def done(thing, name, given):
    """What a method returns, or the kind of its error and what that keeps."""
    try:
        return getattr(thing, name)(*given)
    except Refused as error:
        return (type(error), error.what)


class Together(Case):

    def same(self, track, model):
        self.assertEqual(track.line(), model.painted())
        word, lengths = model.states[model.now]
        self.assertEqual((track.word(), track.lengths()), (word, lengths))
        self.assertEqual(track.rooms(), first_run(trimmed(model.machine), word))
        for told in (track.line(), track.word(), track.lengths(), track.rooms()):
            self.tuples_only(told)

    def some_edit(self, track, least):
        """An edit that may be refused, its numbers within their own bounds."""
        word, lengths = track.word(), track.lengths()
        chance = CHANCES.below(10)
        at = CHANCES.below(len(lengths))
        if chance < 3:
            size = lengths[at]
            left = least + CHANCES.below(size - 2 * least) if size > 2 * least and CHANCES.below(4) else size // 2
            return "put", (at, CHANCES.below(track.letters), min(left, size - 1))
        if chance < 5 and word:
            return "drop", (CHANCES.below(len(word)),)
        if chance < 8:
            return "resize", (at, least - 1 + CHANCES.below(4 * least))
        return ("back", "again")[CHANCES.below(2)], ()

    def test_beside_a_model(self):
        kinds = {}
        for machine, extra in ((SOME, 0), (EVEN, 3), (OPENED, 0), (THIRD, 0), (ring(3, (0,)), 2), (ring(5, (0,)), 0),
                               (all_words(2, (0, 1)), 4), (chain(2), 0)):
            small = trimmed(machine)
            k = sure_from(small[1]) + extra
            least = shortest(k, small[1])
            word = min((way for way in self.ways(machine)), key=len)
            lengths = (2 * least + 1,) * (len(word) + 1)
            if len(word) + sum(lengths) > 6000:
                lengths = (least,) * (len(word) + 1)
            track, model = Track(machine, k, word, lengths), Model(machine, k, word, lengths)
            track.letters = machine[0]
            told_by = inspector(machine, k)
            for _ in range(60):
                name, given = self.some_edit(track, least)
                told, wanted = done(track, name, given), done(model, name, given)
                self.assertEqual(told, wanted, (machine, name, given))
                self.assertIs(type(told), type(wanted))
                self.same(track, model)
                self.is_true(passes(told_by, track.line()))
                kind = told[0].__name__ if isinstance(told, tuple) and told and isinstance(told[0], type) else "done"
                kinds[(name, kind)] = kinds.get((name, kind), 0) + 1
        self.assertGreaterEqual(set(kinds), {
            ("put", "done"), ("drop", "done"), ("resize", "done"), ("back", "done"), ("again", "done"),
            ("put", "NotLet"), ("put", "Short"), ("drop", "NotLet"), ("resize", "Short"), ("again", "NothingAgain"),
            ("back", "NothingBack")})

    def ways(self, machine):
        """Some words that the machine lets."""
        for many in range(5):
            for word in ((0,) * many, (0, 1) * (many // 2), (0,) + (1,) * many, (1,) * many):
                if max(word, default=0) < machine[0] and first_run(machine, word) is not None:
                    yield word

    def test_the_line_at_the_beginning(self):
        for machine, k, word, lengths in ((SOME, 4, (0,), (12, 12)), (EVEN, 9, (), (27,)),
                                          (OPENED, 5, (0, 2, 1), (15, 16, 17, 18))):
            track = Track(machine, k, word, lengths)
            self.assertEqual(track.line(), paint(machine, k, word, lengths))
            self.assertEqual((track.word(), track.lengths()), (word, lengths))
            self.assertEqual(track.rooms(), first_run(trimmed(machine), word))
            self.refused(NothingBack, 0, track.back)
            self.refused(NothingAgain, 0, track.again)

    def test_rooms_are_those_of_the_trimmed_machine(self):
        wide = (1, 9, (3,), (7,), ((3, 0, 7), (5, 0, 3), (7, 0, 7), (7, 0, 8)))
        track = Track(wide, 4, (0, 0), (12, 12, 12))
        self.assertEqual(track.rooms(), (0, 1, 1))
        self.assertEqual(track.line(), paint(SOME, 4, (0, 0), (12, 12, 12)))
        self.assertEqual(track.seen(13), 1)

    def test_two_tracks_do_not_touch_one_another(self):
        one, two = [Track(SOME, 4, (0,), (12, 12)) for _ in range(2)]
        one.resize(0, 30)
        self.assertEqual(two.lengths(), (12, 12))
        self.refused(NothingBack, 0, two.back)
        two.resize(1, 40)
        self.assertEqual(one.back(), (0,))
        self.assertEqual((one.lengths(), two.lengths()), ((12, 12), (12, 40)))


class Edits(Case):

    def test_what_is_repainted(self):
        track = Track(EVEN, 4, (0, 0), (12, 13, 14))
        # Only the stretch of the new size; a size that it has is granted and changes nothing.
        self.assertEqual(track.resize(1, 20), 1)
        self.assertEqual(track.resize(1, 20), 0)
        self.assertEqual(track.back(), (0, 0))
        self.assertEqual(track.lengths(), (12, 20, 14))
        self.assertEqual(track.back(), (0, 0))
        self.assertEqual(track.lengths(), (12, 13, 14))
        # A new station turns the stretches behind it into those of other rooms.
        track = Track(SOME, 4, (0,), (30, 12))
        self.assertEqual(track.put(0, 0, 12), 3)
        self.assertEqual(track.rooms(), (0, 1, 1))
        self.assertEqual(track.lengths(), (12, 17, 12))
        # The stretch behind stays as it is, but has another number.
        self.assertEqual(track.drop(0), 2)
        self.assertEqual((track.lengths(), track.rooms()), ((30, 12), (0, 1)))
        # Stretches with the cells that the one of the same number had are not repainted.
        track = Track(SOME, 4, (0, 0, 0), (12, 14, 14, 14))
        self.assertEqual(track.drop(0), 1)
        self.assertEqual(track.lengths(), (27, 14, 14))
        track = Track(SOME, 4, (0, 0, 0), (12, 14, 29, 14))
        self.assertEqual(track.put(2, 0, 14), 2)
        self.assertEqual(track.lengths(), (12, 14, 14, 14, 14))
        self.assertEqual(track.drop(2), 1)

    def test_first_and_last_cells_for_a_station(self):
        track = Track(SOME, 4, (0,), (12, 40))
        for left, kind, what in ((0, Short, 1), (11, Short, 1), (28, Short, 2), (39, Short, 2), (40, BadSize, 0),
                                 (-1, BadSize, 0), (41, BadSize, 0)):
            self.refused(kind, what, track.put, 1, 0, left)
            self.assertEqual(track.lengths(), (12, 40))
        self.assertEqual(track.put(1, 0, 12), 2)
        self.assertEqual(track.lengths(), (12, 12, 27))
        track.back()
        self.assertEqual(track.put(1, 0, 27), 2)
        self.assertEqual(track.lengths(), (12, 27, 12))
        # In the first stretch and in the last one.
        track = Track(SOME, 4, (0,), (25, 25))
        self.assertEqual(track.put(0, 0, 12), 3)
        self.assertEqual(track.put(2, 0, 12), 2)
        self.assertEqual(track.lengths(), (12, 12, 12, 12))
        self.refused(Short, 0, track.put, 0, 0, 5)

    def test_sizes(self):
        track = Track(SOME, 4, (0,), (12, 40))
        self.refused(Short, 1, track.resize, 1, 11)
        self.refused(Short, 0, track.resize, 0, 0)
        self.assertEqual(track.resize(1, 12), 1)
        self.assertEqual(track.resize(0, 12), 0)
        self.assertEqual(track.resize(0, 5000), 1)
        self.refused(BadSize, 0, track.resize, 0, 5001)
        self.refused(Short, 1, track.resize, 1, 0)

    def test_200_letters_and_one_more(self):
        every = all_words(1, (0,))
        track = Track(every, 1, (0,) * 199, (10,) * 200)
        self.assertEqual(track.put(0, 0, 4), 3)
        self.assertEqual(len(track.word()), 200)
        self.refused(BadWord, -1, track.put, 0, 0, 0)
        self.refused(BadWord, -1, track.put, 3, 0, 4)
        self.assertEqual(len(track.lengths()), 201)
        self.assertEqual(track.drop(199), 1)
        # Of several that are wrong the word is told first.
        self.refused(BadWord, -1, Track(ring(2, (0,)), 4, (0,) * 200, (12,) * 201).put, 0, 0, 1)

    def test_a_joined_stretch_above_5000_cells(self):
        every = all_words(1, (0,))
        track = Track(every, 1, (0, 0), (2500, 2499, 900))
        self.assertEqual(track.drop(0), 2)
        self.assertEqual(track.lengths(), (5000, 900))
        self.refused(BadLengths, 0, track.drop, 0)
        track = Track(every, 1, (0, 0), (900, 2500, 2500))
        self.refused(BadLengths, 1, track.drop, 1)
        # Before the machine is asked.
        track = Track(EVEN, 4, (0, 0), (900, 2500, 2500))
        self.refused(BadLengths, 1, track.drop, 1)
        self.refused(NotLet, 0, track.drop, 0)

    def test_a_line_of_6000_cells_and_one_more(self):
        track = Track(SOME, 4, (0,), (1000, 4998))
        self.assertEqual(track.resize(0, 1001), 1)
        self.assertEqual(len(track.line()), 6000)
        self.refused(TooLong, 6001, track.resize, 0, 1002)
        self.refused(TooLong, 9999, track.resize, 0, 5000)
        self.assertEqual(track.lengths(), (1001, 4998))
        # A station takes the place of a cell.
        self.assertEqual(track.put(1, 0, 2000), 2)
        self.assertEqual(len(track.line()), 6000)
        self.assertEqual(track.drop(0), 2)
        self.assertEqual(len(track.line()), 6000)

    def test_the_order_of_what_paint_refuses(self):
        track = Track(EVEN, 4, (0, 0), (900, 2500, 2500))
        # Not let goes before too short, this before too long.
        self.refused(NotLet, 0, track.put, 0, 0, 1)
        self.refused(NotLet, 0, track.drop, 0)
        track = Track(all_words(1, (0,)), 4, (0, 0), (900, 2500, 2500))
        self.refused(Short, 0, track.put, 0, 0, 1)
        self.refused(Short, 1, track.resize, 1, 1)
        self.refused(TooLong, 7602, track.resize, 0, 2600)
        self.assertEqual(track.resize(0, 998), 1)
        self.refused(TooLong, 6001, track.resize, 0, 999)

    def test_wrong_arguments(self):
        track = Track(OPENED, 4, (0, 1), (12, 30, 12))
        line = track.line()
        for at in NO_NUMBERS + (-1, 3, 10 ** 40):
            self.refused(BadAt, at, track.put, at, None, None)
            self.refused(BadAt, at, track.put, at=at, letter=0, left=0)
            self.refused(BadAt, at, track.resize, at, None)
        for at in NO_NUMBERS + (-1, 2, 10 ** 40):
            self.refused(BadAt, at, track.drop, at)
        for letter in NO_NUMBERS + (-1, 3, 10 ** 40):
            self.refused(BadLetter, letter, track.put, 1, letter, None)
        for left in NO_NUMBERS + (-1, 30, 10 ** 40):
            self.refused(BadSize, 0, track.put, 1, 2, left)
        for size in NO_NUMBERS + (-1, 5001, 10 ** 40):
            self.refused(BadSize, 0, track.resize, 2, size)
        for place in NO_NUMBERS + (-1, len(line), 10 ** 40):
            self.refused(BadPlace, place, track.wiped, place)
            self.refused(BadPlace, place, track.seen, place)
        held = [1, [2]]
        self.refused(BadAt, held, track.drop, held)
        self.refused(BadPlace, held, track.seen, held)
        self.assertEqual(held, [1, [2]])
        self.assertEqual(track.line(), line)
        self.refused(NothingBack, 0, track.back)
        self.assertEqual(track.put(left=12, letter=2, at=1), 3)
        self.assertEqual(track.resize(size=14, at=0), 1)
        self.assertEqual(track.drop(at=1), 2)
        self.assertEqual(track.seen(place=0), 0)
        self.assertEqual(track.wiped(place=15), track.line()[:15] + (0,) + track.line()[16:])

    def test_letters_are_those_of_the_machine(self):
        # Letter 1 is a letter of the machine but never let; letter 2 is none.
        track = Track((2, 2, (0,), (1,), ((0, 0, 1), (1, 0, 1))), 4, (0,), (12, 30))
        self.refused(NotLet, 0, track.put, 1, 1, 12)
        self.refused(BadLetter, 2, track.put, 1, 2, 12)


class Undo(Case):

    def test_50_edits_and_a_51st(self):
        track = Track(SOME, 4, (0,), (12, 12))
        lines = [track.line()]
        for size in range(13, 63):
            self.assertEqual(track.resize(1, size), 1)
            lines.append(track.line())
        for line in lines[-2::-1]:
            self.assertEqual(track.back(), (0,))
            self.assertEqual(track.line(), line)
        self.refused(NothingBack, 0, track.back)
        for line in lines[1:]:
            self.assertEqual(track.again(), (0,))
            self.assertEqual(track.line(), line)
        self.refused(NothingAgain, 0, track.again)
        # With one more the earliest one is forgotten.
        track.resize(1, 63)
        for _ in range(50):
            track.back()
        self.refused(NothingBack, 0, track.back)
        self.assertEqual(track.line(), lines[1])
        # Undone ones do not count; those done again do.
        for _ in range(50):
            track.again()
        self.assertEqual(track.lengths(), (12, 63))
        track.back()
        track.resize(0, 20)
        for _ in range(50):
            track.back()
        self.refused(NothingBack, 0, track.back)
        self.assertEqual(track.line(), lines[1])

    def test_an_edit_forgets_what_was_undone(self):
        track = Track(SOME, 4, (0,), (12, 30))
        track.put(1, 0, 12)
        track.resize(0, 15)
        self.assertEqual((track.back(), track.back()), ((0, 0), (0,)))
        self.assertEqual(track.again(), (0, 0))
        self.assertEqual(track.resize(2, 20), 1)
        self.refused(NothingAgain, 0, track.again)
        self.assertEqual((track.back(), track.lengths()), ((0, 0), (12, 12, 17)))
        self.assertEqual((track.again(), track.lengths()), ((0, 0), (12, 12, 20)))
        # Also one that changes nothing.
        track.back()
        self.assertEqual(track.resize(0, 12), 0)
        self.refused(NothingAgain, 0, track.again)

    def test_a_refused_edit_changes_nothing(self):
        track = Track(EVEN, 4, (0, 0), (12, 30, 12))
        track.resize(0, 20)
        track.resize(0, 21)
        track.back()
        line = track.line()
        for name, given in (("put", (1, 0, 12)), ("put", (9, 0, 12)), ("put", (1, 1, 12)), ("put", (1, 0, 30)),
                            ("drop", (0,)), ("drop", (2,)), ("resize", (0, 11)), ("resize", (0, 5001)),
                            ("resize", (3, 20)), ("wiped", (0,)), ("seen", (20,))):
            self.assertIsInstance(done(track, name, given)[0], type, name)
            self.assertEqual((track.line(), track.word(), track.lengths()), (line, (0, 0), (20, 30, 12)))
        # What was undone can still be done again, and what was done undone.
        self.assertEqual((track.again(), track.lengths()), ((0, 0), (21, 30, 12)))
        self.assertEqual((track.back(), track.back(), track.lengths()), ((0, 0), (0, 0), (12, 30, 12)))
        self.refused(NothingBack, 0, track.back)


class Looks(Case):

    def test_each_place(self):
        for machine, k, word, lengths in ((SOME, 4, (0, 0), (12, 17, 14)), (SOME, 5, (0,), (15, 16)),
                                          ((1, 2, (1,), (0,), ((0, 0, 1), (1, 0, 0))), 4, (0,), (14, 12)),
                                          (EVEN, 7, (0, 0), (21, 40, 22)), (chain(3), 30, (0,) * 3, (380,) * 4),
                                          (ring(3, (0,)), 15, (0, 0, 0), (110, 111, 115, 119))):
            track = Track(machine, k, word, lengths)
            line, rooms = track.line(), track.rooms()
            told_by = inspector(machine, k)
            stretch, left = 0, lengths[0]
            for place, cell in enumerate(line):
                if cell > 2:
                    stretch += 1
                    left = lengths[stretch]
                    self.refused(BadPlace, place, track.seen, place)
                elif left < k:
                    self.refused(BadPlace, place, track.seen, place)
                    left -= 1
                else:
                    self.assertEqual(track.seen(place), rooms[stretch])
                    if place < 60:
                        self.assertEqual(track.seen(place), room_seen(machine, k, line[place:place + k]))
                    left -= 1
                if cell == 1:
                    wiped = track.wiped(place)
                    self.assertEqual(wiped, line[:place] + (0,) + line[place + 1:])
                    self.tuples_only(wiped)
                    self.is_false(passes(told_by, wiped))
                else:
                    self.refused(BadPlace, place, track.wiped, place)
            self.assertEqual((track.line(), track.rooms()), (line, rooms))
            self.refused(NothingBack, 0, track.back)
            for place in (-1, len(line), len(line) + 1):
                self.refused(BadPlace, place, track.seen, place)
                self.refused(BadPlace, place, track.wiped, place)

    def test_behind_edits(self):
        track = Track(SOME, 4, (0,), (12, 12))
        track.resize(1, 25)
        track.put(1, 0, 12)
        self.assertEqual([track.seen(place) for place in (0, 8, 13, 21, 26, 34)], [0, 0, 1, 1, 1, 1])
        for place in (9, 12, 22, 25, 35, 38):
            self.refused(BadPlace, place, track.seen, place)
        track.back()
        self.assertEqual([track.seen(place) for place in (22, 25, 34)], [1, 1, 1])
        self.is_false(passes(inspector(SOME, 4), track.wiped(13)))


class Beginning(Case):

    def test_it_raises_what_paint_raises(self):
        good = (OPENED, 4, (0, 1), (12, 12, 12))
        self.assertEqual(Track(*good).line(), paint(*good))
        self.assertEqual(Track(lengths=good[3], word=good[2], k=4, machine=OPENED).line(), paint(*good))
        letters = [(thing, kind, what) for thing, kind, what in WRONG_WORD_OF_2 if what < 0 or thing[what] != 2]
        for at, wrong in enumerate((WRONG_MACHINE, WRONG_K, letters, WRONG_LENGTHS_OF_3)):
            for thing, kind, what in wrong:
                self.refused(kind, what, Track, *good[:at], thing, *good[at + 1:])
                self.refused(kind, what, Track, *good[:at], thing, *(None,) * (3 - at))
        self.refused(TooMany, 6, Track, ring(6, (0,)), None, None, None)
        self.refused(BadMachine, -1, Track, None, None, None, None)
        self.refused(BadK, 0, Track, EVEN, 61, (4,), ())
        self.refused(TooThin, 4, Track, EVEN, 3, (0,), (12, 12))
        self.refused(NotLet, 0, Track, EVEN, 4, (0,), (11, 12))
        self.refused(Short, 1, Track, EVEN, 4, (0, 0), (12, 11, 0))
        self.refused(TooLong, 10002, Track, EVEN, 4, (0, 0), (5000, 4988, 12))
        self.refused(NotLet, 0, Track, no_words(1), 1, (), (3,))
        self.assertEqual(Track(empty_word(1), 1, (), (3,)).line(), (0, 0, 0))
        self.refused(BadWord, -1, Track, EVEN, 4, nested(20)[0] + (0,) * 201, ())

    def test_methods_stand_in_the_class(self):
        self.assertTrue(inspect.isclass(Track))
        self.assertEqual(Track.__module__, "undertwo.track")
        self.assertEqual(tuple(inspect.signature(Track).parameters), ("machine", "k", "word", "lengths"))
        for name, arguments in METHODS.items():
            self.assertIn(name, vars(Track))
            self.assertEqual(tuple(inspect.signature(vars(Track)[name]).parameters), ("self",) + arguments)


if __name__ == "__main__":
    unittest.main()
