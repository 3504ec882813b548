"""[0.1], [0.2] and the interface: names, arguments, their order of checking, and wrong values for each of them."""

import importlib
import inspect
import itertools
import unittest

from tests import common
from tests.common import (EVEN, NO_NUMBERS, NO_TUPLES, THIRD, WRONG_INSPECTOR, WRONG_K, WRONG_LENGTHS_OF_3,
                          WRONG_LIMIT, WRONG_LINE_OF_2, WRONG_LINE_OF_4, WRONG_LOT_OF_2, WRONG_MACHINE, WRONG_NAMES,
                          WRONG_ROW, WRONG_ROWS, WRONG_TEXT, WRONG_TS, WRONG_VIEW_OF_3, WRONG_WEIGHTS,
                          WRONG_WORD_OF_2, WRONG_WORD_OF_4, Case, all_words, wrong_numbers)
from undertwo import errors

NO_MANY = wrong_numbers(1, 30, errors.BadMany)
NO_EDGE = wrong_numbers(1, 4, errors.BadMany)
NO_CELLS = wrong_numbers(0, 2000, errors.BadMany)
NO_START = wrong_numbers(0, 10 ** 30, errors.BadStart)
NO_K_OF_SHARES = wrong_numbers(1, 24, errors.BadK)
NO_ROOM_OF_THIRD = [(thing, errors.BadRoom, thing) for thing in NO_NUMBERS + (-1, 8, 10 ** 40)]
DARK = [((), errors.NoDots, 0)]
NO_ROOMS_OF_PRICE = wrong_numbers(0, 30, errors.BadMany)
NO_ROOMS_OF_PLAN = wrong_numbers(0, 5, errors.BadMany)
NO_ROOMS_OF_CODE = wrong_numbers(2, 5, errors.BadMany)
NO_ROOM_OF_2 = [(thing, errors.BadRoom, thing) for thing in NO_NUMBERS + (-1, 2, 10 ** 40)]
NO_ROOM_OF_CODE = NO_ROOM_OF_2 + [(0, errors.BadRoom, 0)]
NO_SIZE_FROM_12 = [(thing, errors.BadSize, 12) for thing in NO_NUMBERS + (-1, 0, 11, 5001, 10 ** 40)]
NO_KNOT_OF_1 = [(thing, errors.BadKnot, 0) for thing in NO_NUMBERS + (-1, 1, 10 ** 40)]
NO_LETTERS = wrong_numbers(1, 4, errors.BadMany)
EYE = (1, 2, ((0, 0), (0, 2), (0, 3), (2, 0), (3, 0)))
# Lets a station 0 and then a station 1; two rooms.
SOME_PAINTED = (2, 2, (0,), (0,), ((0, 0, 1), (1, 1, 0)))

# For each function: the module, the name, the names of its arguments, good arguments, the wrong ones for each of them.
FUNCTIONS = (
    ("rows", "made_k", ("thing",), (3,), (WRONG_K,)),
    ("rows", "made_row", ("thing",), ((3, 1),), (WRONG_ROW,)),
    ("rows", "is_row", ("thing",), ((3, 1),), None),
    ("rows", "made_rows", ("thing",), (((3, 1), ()),), (WRONG_ROWS,)),
    ("rows", "round_of", ("row",), ((3, 1),), (WRONG_ROW,)),
    ("rows", "mean", ("row",), ((3, 1),), (WRONG_ROW + DARK,)),
    ("rows", "density", ("row",), ((3, 1),), (WRONG_ROW,)),
    ("rows", "cells_from", ("row", "start", "many"), ((3, 1), 0, 9), (WRONG_ROW, NO_START, NO_CELLS)),
    ("rows", "turned", ("row",), ((3, 1),), (WRONG_ROW,)),
    ("rows", "least_row", ("row",), ((3, 1),), (WRONG_ROW,)),
    ("rows", "same", ("one", "two"), ((3, 1), (1, 3)), (WRONG_ROW, WRONG_ROW)),
    ("views", "made_view", ("k", "thing"), (3, (0, 1, 0)), (WRONG_K, WRONG_VIEW_OF_3)),
    ("views", "views", ("k", "row"), (3, (3, 1)), (WRONG_K, WRONG_ROW)),
    ("views", "blank", ("k", "row"), (3, (3, 1)), (WRONG_K, WRONG_ROW)),
    ("views", "owned", ("k", "row"), (3, (3, 1)), (WRONG_K, WRONG_ROW)),
    ("views", "alone", ("k", "row"), (3, (3, 1)), (WRONG_K, WRONG_ROW)),
    ("apart", "shared", ("k", "rows"), (3, ((2,), (3, 1))), (WRONG_K, WRONG_ROWS)),
    ("apart", "apart", ("k", "rows"), (3, ((2,), (3, 1))), (WRONG_K, WRONG_ROWS)),
    ("apart", "clear", ("k", "rows"), (3, ((2,), (3, 1))), (WRONG_K, WRONG_ROWS)),
    ("thick", "thickness", ("k", "row"), (3, (3, 1)), (WRONG_K, WRONG_ROW + DARK)),
    ("thick", "made_ts", ("thing",), ((1, 1),), (WRONG_TS,)),
    ("thick", "spare", ("k", "ts"), (3, (1, 1)), (WRONG_K, WRONG_TS)),
    ("thick", "fits", ("k", "ts"), (3, (1, 1)), (WRONG_K, WRONG_TS)),
    ("thick", "most", ("k", "many"), (3, 2), (WRONG_K, NO_MANY)),
    ("thick", "least_density", ("k", "many"), (3, 2), (WRONG_K, NO_MANY)),
    ("thick", "edge", ("k", "many"), (3, 2), (WRONG_K, NO_EDGE)),
    ("maker", "intervals", ("k", "ts"), (3, (1, 1)), (WRONG_K, WRONG_TS)),
    ("maker", "thin_rows", ("k", "ts"), (3, (1, 1)), (WRONG_K, WRONG_TS)),
    ("account", "middle_row", ("k", "rows"), (3, ((2,), (3, 1))), (WRONG_K, WRONG_ROWS)),
    ("account", "sides", ("k", "row"), (3, (3, 1)), (WRONG_K, WRONG_ROW)),
    ("account", "account", ("k", "rows"), (3, ((2,), (3, 1))), (WRONG_K, WRONG_ROWS)),
    ("reader", "find", ("k", "rows", "view"), (3, ((2,), (3, 1)), (0, 1, 0)), (WRONG_K, WRONG_ROWS, WRONG_VIEW_OF_3)),
    ("shares", "cheapest", ("k", "weights"), (3, (1, 1)), (NO_K_OF_SHARES, WRONG_WEIGHTS)),
    ("machines", "made_machine", ("thing",), (EVEN,), (WRONG_MACHINE,)),
    ("machines", "is_machine", ("thing",), (EVEN,), None),
    ("machines", "made_word", ("machine", "thing"), (THIRD, (0, 1)), (WRONG_MACHINE, WRONG_WORD_OF_2)),
    ("machines", "lets", ("machine", "word"), (THIRD, (0, 1)), (WRONG_MACHINE, WRONG_WORD_OF_2)),
    ("machines", "first_run", ("machine", "word"), (THIRD, (0, 1)), (WRONG_MACHINE, WRONG_WORD_OF_2)),
    ("machines", "trimmed", ("machine",), (THIRD,), (WRONG_MACHINE,)),
    ("machines", "flipped", ("machine",), (THIRD,), (WRONG_MACHINE,)),
    ("sure", "sure_of", ("machine",), (THIRD,), (WRONG_MACHINE,)),
    ("sure", "way_to", ("machine", "room"), (THIRD, 3), (WRONG_MACHINE, NO_ROOM_OF_THIRD)),
    ("sure", "classes", ("machine",), (THIRD,), (WRONG_MACHINE,)),
    ("sure", "part_word", ("one", "two"), (EVEN, EVEN), (WRONG_MACHINE, WRONG_MACHINE)),
    ("sure", "alike", ("one", "two"), (EVEN, EVEN), (WRONG_MACHINE, WRONG_MACHINE)),
    ("sure", "within", ("one", "two"), (EVEN, EVEN), (WRONG_MACHINE, WRONG_MACHINE)),
    ("joining", "either", ("one", "two"), (EVEN, EVEN), (WRONG_MACHINE, WRONG_MACHINE)),
    ("joining", "both", ("one", "two"), (EVEN, EVEN), (WRONG_MACHINE, WRONG_MACHINE)),
    ("joining", "butnot", ("one", "two"), (EVEN, EVEN), (WRONG_MACHINE, WRONG_MACHINE)),
    ("joining", "behind", ("one", "two"), (EVEN, EVEN), (WRONG_MACHINE, WRONG_MACHINE)),
    ("joining", "repeated", ("one",), (EVEN,), (WRONG_MACHINE,)),
    ("joining", "opposite", ("one",), (EVEN,), (WRONG_MACHINE,)),
    ("rects", "rects", ("machine",), (THIRD,), (WRONG_MACHINE,)),
    ("rects", "rect_machine", ("machine", "lot"), (EVEN, (0, 1)), (WRONG_MACHINE, WRONG_LOT_OF_2)),
    ("leastrooms", "least_lot", ("machine",), (THIRD,), (WRONG_MACHINE,)),
    ("leastrooms", "least_machine", ("machine",), (THIRD,), (WRONG_MACHINE,)),
    ("leastrooms", "least_rooms", ("machine",), (THIRD,), (WRONG_MACHINE,)),
    ("fools", "fool_right", ("machine", "thing"), (EVEN, (((), ()),)), (WRONG_MACHINE, ())),
    ("fools", "fools", ("machine",), (THIRD,), (WRONG_MACHINE,)),
    ("prices", "price", ("k", "rooms"), (4, 2), (WRONG_K, NO_ROOMS_OF_PRICE)),
    ("prices", "long_price", ("rooms",), (2,), (NO_ROOMS_OF_PRICE,)),
    ("prices", "code_size", ("rooms",), (2,), (NO_ROOMS_OF_PRICE,)),
    ("prices", "sure_from", ("rooms",), (2,), (NO_ROOMS_OF_PRICE,)),
    ("prices", "law_price", ("machine", "k"), (EVEN, 4), (WRONG_MACHINE, WRONG_K)),
    ("plans", "plan", ("k", "rooms"), (42, 5), (WRONG_K, NO_ROOMS_OF_PLAN)),
    ("plans", "code", ("rooms", "room"), (2, 1), (NO_ROOMS_OF_CODE, NO_ROOM_OF_CODE)),
    ("plans", "shortest", ("k", "rooms"), (42, 5), (WRONG_K, NO_ROOMS_OF_PLAN)),
    ("plans", "stretch", ("k", "rooms", "room", "size"), (4, 2, 1, 12),
     (WRONG_K, NO_ROOMS_OF_PLAN, NO_ROOM_OF_2, NO_SIZE_FROM_12)),
    ("lines", "made_line", ("machine", "thing"), (THIRD, (0, 3, 1)), (WRONG_MACHINE, WRONG_LINE_OF_2)),
    ("lines", "made_lengths", ("word", "thing"), ((0, 3), (0, 1, 2)), (WRONG_WORD_OF_4, WRONG_LENGTHS_OF_3)),
    ("lines", "stations", ("line",), ((0, 3, 1),), (WRONG_LINE_OF_4,)),
    ("lines", "sizes", ("line",), ((0, 3, 1),), (WRONG_LINE_OF_4,)),
    ("lines", "dots_in", ("line",), ((0, 3, 1),), (WRONG_LINE_OF_4,)),
    ("lines", "undotted", ("line",), ((0, 3, 1),), (WRONG_LINE_OF_4,)),
    ("lines", "bare", ("word", "lengths"), ((0, 3), (0, 1, 2)), (WRONG_WORD_OF_4, WRONG_LENGTHS_OF_3)),
    ("painter", "paint", ("machine", "k", "word", "lengths"), (SOME_PAINTED, 4, (0, 1), (12, 12, 12)),
     (WRONG_MACHINE, WRONG_K, WRONG_WORD_OF_2, WRONG_LENGTHS_OF_3)),
    ("painter", "bound", ("k", "rooms", "size"), (4, 2, 12), (WRONG_K, NO_ROOMS_OF_PLAN, NO_SIZE_FROM_12)),
    ("inspectors", "made_inspector", ("thing",), (EYE,), (WRONG_INSPECTOR,)),
    ("inspectors", "is_inspector", ("thing",), (EYE,), None),
    ("inspectors", "first_no", ("inspector", "line"), (EYE, (0, 3, 1)), (WRONG_INSPECTOR, WRONG_LINE_OF_4)),
    ("inspectors", "passes", ("inspector", "line"), (EYE, (0, 3, 1)), (WRONG_INSPECTOR, WRONG_LINE_OF_4)),
    ("inspectors", "words_of", ("k", "line"), (2, (0, 3, 1)), (WRONG_K, WRONG_LINE_OF_4)),
    ("madewords", "inspector", ("machine", "k"), (EVEN, 4), (WRONG_MACHINE, WRONG_K)),
    ("knots", "knots", ("inspector",), (EYE,), (WRONG_INSPECTOR,)),
    ("knots", "thinnest", ("inspector",), (EYE,), (WRONG_INSPECTOR,)),
    ("rounds", "thin_round", ("inspector", "knot"), (EYE, 0), (WRONG_INSPECTOR, NO_KNOT_OF_1)),
    ("rounds", "round_right", ("inspector", "knot", "thing"), (EYE, 0, ()), (WRONG_INSPECTOR, NO_KNOT_OF_1, ())),
    ("kept", "made_limit", ("thing",), ((1, 2),), (WRONG_LIMIT,)),
    ("kept", "kept", ("inspector", "letters", "limit"), (EYE, 1, (1, 2)), (WRONG_INSPECTOR, NO_LETTERS, WRONG_LIMIT)),
    ("best", "best_line", ("inspector", "word", "lengths"), (EYE, (0, 0), (2, 2, 3)),
     (WRONG_INSPECTOR, WRONG_WORD_OF_4, WRONG_LENGTHS_OF_3)),
    ("breaker", "find_line", ("inspector", "word"), (EYE, (0, 0)), (WRONG_INSPECTOR, WRONG_WORD_OF_4)),
    ("breaker", "broken", ("inspector", "machine", "limit"), (EYE, EVEN, (0, 1)),
     (WRONG_INSPECTOR, WRONG_MACHINE, WRONG_LIMIT)),
    ("seen", "room_seen", ("machine", "k", "view"), (all_words(1, (0,)), 3, (0, 0, 0)),
     (WRONG_MACHINE, WRONG_K, WRONG_VIEW_OF_3)),
    ("lawtexts", "made_names", ("thing",), (("off", "on"),), (WRONG_NAMES,)),
    ("lawtexts", "read_law", ("names", "text"), (("a",), "(a a)*"), (WRONG_NAMES, WRONG_TEXT)),
    ("lawtexts", "read_machine", ("names", "text"), (("a",), "rooms 0; starts -; ends -; -"),
     (WRONG_NAMES, WRONG_TEXT)),
    ("lawtexts", "print_machine", ("names", "machine"), (("a",), EVEN), (WRONG_NAMES, WRONG_MACHINE)),
    ("linetexts", "read_line", ("names", "text"), (("a",), "3 a o"), (WRONG_NAMES, WRONG_TEXT)),
    ("linetexts", "print_line", ("names", "line"), (("a",), (0, 3, 1)), (WRONG_NAMES, WRONG_LINE_OF_4)),
    ("rowtexts", "read_rows", ("text",), ("3 1 | dark",), (WRONG_TEXT,)),
    ("rowtexts", "print_rows", ("rows",), (((3, 1), ()),), (WRONG_ROWS,)),
    ("inspectortexts", "read_inspector", ("text",), ("k 1 m 2: -",), (WRONG_TEXT,)),
    ("inspectortexts", "print_inspector", ("inspector",), (EYE,), (WRONG_INSPECTOR,)),
)


def function(module, name):
    return getattr(importlib.import_module("undertwo." + module), name)


class Interface(Case):

    def test_each_function_stands_in_its_file_with_its_arguments(self):
        for module, name, arguments, good, _ in FUNCTIONS:
            action = function(module, name)
            self.assertTrue(inspect.isfunction(action))
            self.assertEqual((action.__module__, action.__name__), ("undertwo." + module, name))
            self.assertEqual(tuple(inspect.signature(action).parameters), arguments, name)
            self.assertEqual(len(good), len(arguments))

    def test_by_position_and_by_name(self):
        for module, name, arguments, good, _ in FUNCTIONS:
            action = function(module, name)
            told = action(*good)
            named = dict(zip(arguments, good))
            self.assertEqual(action(**named), told, name)
            self.assertEqual(action(**dict(reversed(list(named.items())))), told, name)
            self.assertEqual(action(*good), told, name)
            self.tuples_only(told)


class Wrong(Case):

    def test_each_argument(self):
        for module, name, arguments, good, wrong in FUNCTIONS:
            action = function(module, name)
            for at, things in enumerate(wrong or ()):
                for thing, kind, what in things:
                    given = good[:at] + (thing,) + good[at + 1:]
                    self.refused(kind, what, action, *given)
                    self.refused(kind, what, action, **dict(zip(arguments, given)))

    def test_the_first_of_two_wrong_arguments_is_told(self):
        for module, name, arguments, good, wrong in FUNCTIONS:
            action = function(module, name)
            for one, two in itertools.combinations(range(len(good)), 2):
                for (thing, kind, what), (other, _, _) in itertools.product(wrong[one], wrong[two]):
                    given = list(good)
                    given[one] = thing
                    given[two] = other
                    self.refused(kind, what, action, *given)
                    if type(other) is not tuple:
                        self.refused(kind, what, action, **dict(reversed(list(zip(arguments, given)))))

    def test_judges_return_false(self):
        judges = [(function("rows", "is_row"), WRONG_ROW), (function("machines", "is_machine"), WRONG_MACHINE),
                  (function("inspectors", "is_inspector"), WRONG_INSPECTOR)]
        for judge, wrong in judges:
            for thing, _, _ in wrong:
                self.is_false(judge(thing))
            for thing in NO_TUPLES:
                self.is_false(judge(thing))
        is_row, is_machine, is_inspector = [judge for judge, _ in judges]
        for thing in (EVEN, THIRD, EYE):
            self.is_false(is_row(thing))
            self.is_false(is_machine(thing) and is_inspector(thing))
        round_right = function("rounds", "round_right")
        for thing, _, _ in WRONG_ROW + WRONG_MACHINE + WRONG_INSPECTOR:
            if thing != ():
                self.is_false(round_right(EYE, 0, thing))
        fool_right = function("fools", "fool_right")
        for thing, _, _ in WRONG_MACHINE + WRONG_INSPECTOR + WRONG_ROW:
            if thing != ():
                self.is_false(fool_right(EVEN, thing))

    def test_nothing_that_is_handed_in_is_changed(self):
        held = [1, [2, [3]], (4, [5])]
        for module, name, _, good, wrong in FUNCTIONS:
            action = function(module, name)
            for at in range(len(good)):
                # A room or a lot is checked late, a list in a tuple not before the items ahead of it.
                for thing in (held, (held,), (1, held)):
                    given = good[:at] + (thing,) + good[at + 1:]
                    try:
                        self.assertIs(action(*given), False)
                    except errors.Refused:
                        pass
        self.assertEqual(held, [1, [2, [3]], (4, [5])])

    def test_the_wrong_values_are_of_all_kinds(self):
        for name, things in vars(common).items():
            if name.startswith("WRONG"):
                kinds = {type(thing) for thing, _, _ in things}
                self.assertLessEqual({tuple, list, int, str, bool, type(None)}, kinds, name)


if __name__ == "__main__":
    unittest.main()
