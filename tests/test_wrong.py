"""[0.1], [0.2] and the interface: names, arguments, their order of checking, and wrong values for each of them."""

import importlib
import inspect
import itertools
import unittest

from tests import common
from tests.common import (EVEN, NO_NUMBERS, THIRD, WRONG_K, WRONG_MACHINE, WRONG_ROW, WRONG_ROWS, WRONG_TS,
                          WRONG_VIEW_OF_3, WRONG_WEIGHTS, WRONG_WORD_OF_2, Case, wrong_numbers)
from undertwo import errors

NO_MANY = wrong_numbers(1, 30, errors.BadMany)
NO_EDGE = wrong_numbers(1, 4, errors.BadMany)
NO_CELLS = wrong_numbers(0, 2000, errors.BadMany)
NO_START = wrong_numbers(0, 10 ** 30, errors.BadStart)
NO_K_OF_SHARES = wrong_numbers(1, 24, errors.BadK)
NO_ROOM_OF_THIRD = [(thing, errors.BadRoom, thing) for thing in NO_NUMBERS + (-1, 8, 10 ** 40)]
DARK = [((), errors.NoDots, 0)]

# For each function: the module, the name, the names of its arguments, good arguments, the wrong ones for each of them.
FUNCTIONS = (
    ("rows", "made_k", ("thing",), (3,), (WRONG_K,)),
    ("rows", "made_row", ("thing",), ((3, 1),), (WRONG_ROW,)),
    ("rows", "is_row", ("thing",), ((3, 1),), None),
    ("rows", "made_rows", ("thing",), (((3, 1), ()),), (WRONG_ROWS,)),
    ("rows", "round_of", ("row",), ((3, 1),), (WRONG_ROW,)),
    ("rows", "mean", ("row",), ((3, 1),), (WRONG_ROW + DARK,)),
    ("rows", "density", ("row",), ((3, 1),), (WRONG_ROW,)),
    ("rows", "cells_from", ("row", "start", "many"), ((3, 1), 0, 9), (WRONG_ROW, NO_START, NO_CELLS)),
    ("rows", "turned", ("row",), ((3, 1),), (WRONG_ROW,)),
    ("rows", "least_row", ("row",), ((3, 1),), (WRONG_ROW,)),
    ("rows", "same", ("one", "two"), ((3, 1), (1, 3)), (WRONG_ROW, WRONG_ROW)),
    ("views", "made_view", ("k", "thing"), (3, (0, 1, 0)), (WRONG_K, WRONG_VIEW_OF_3)),
    ("views", "views", ("k", "row"), (3, (3, 1)), (WRONG_K, WRONG_ROW)),
    ("views", "blank", ("k", "row"), (3, (3, 1)), (WRONG_K, WRONG_ROW)),
    ("views", "owned", ("k", "row"), (3, (3, 1)), (WRONG_K, WRONG_ROW)),
    ("views", "alone", ("k", "row"), (3, (3, 1)), (WRONG_K, WRONG_ROW)),
    ("apart", "shared", ("k", "rows"), (3, ((2,), (3, 1))), (WRONG_K, WRONG_ROWS)),
    ("apart", "apart", ("k", "rows"), (3, ((2,), (3, 1))), (WRONG_K, WRONG_ROWS)),
    ("apart", "clear", ("k", "rows"), (3, ((2,), (3, 1))), (WRONG_K, WRONG_ROWS)),
    ("thick", "thickness", ("k", "row"), (3, (3, 1)), (WRONG_K, WRONG_ROW + DARK)),
    ("thick", "made_ts", ("thing",), ((1, 1),), (WRONG_TS,)),
    ("thick", "spare", ("k", "ts"), (3, (1, 1)), (WRONG_K, WRONG_TS)),
    ("thick", "fits", ("k", "ts"), (3, (1, 1)), (WRONG_K, WRONG_TS)),
    ("thick", "most", ("k", "many"), (3, 2), (WRONG_K, NO_MANY)),
    ("thick", "least_density", ("k", "many"), (3, 2), (WRONG_K, NO_MANY)),
    ("thick", "edge", ("k", "many"), (3, 2), (WRONG_K, NO_EDGE)),
    ("maker", "intervals", ("k", "ts"), (3, (1, 1)), (WRONG_K, WRONG_TS)),
    ("maker", "thin_rows", ("k", "ts"), (3, (1, 1)), (WRONG_K, WRONG_TS)),
    ("account", "middle_row", ("k", "rows"), (3, ((2,), (3, 1))), (WRONG_K, WRONG_ROWS)),
    ("account", "sides", ("k", "row"), (3, (3, 1)), (WRONG_K, WRONG_ROW)),
    ("account", "account", ("k", "rows"), (3, ((2,), (3, 1))), (WRONG_K, WRONG_ROWS)),
    ("reader", "find", ("k", "rows", "view"), (3, ((2,), (3, 1)), (0, 1, 0)), (WRONG_K, WRONG_ROWS, WRONG_VIEW_OF_3)),
    ("shares", "cheapest", ("k", "weights"), (3, (1, 1)), (NO_K_OF_SHARES, WRONG_WEIGHTS)),
    ("machines", "made_machine", ("thing",), (EVEN,), (WRONG_MACHINE,)),
    ("machines", "is_machine", ("thing",), (EVEN,), None),
    ("machines", "made_word", ("machine", "thing"), (THIRD, (0, 1)), (WRONG_MACHINE, WRONG_WORD_OF_2)),
    ("machines", "lets", ("machine", "word"), (THIRD, (0, 1)), (WRONG_MACHINE, WRONG_WORD_OF_2)),
    ("machines", "first_run", ("machine", "word"), (THIRD, (0, 1)), (WRONG_MACHINE, WRONG_WORD_OF_2)),
    ("machines", "trimmed", ("machine",), (THIRD,), (WRONG_MACHINE,)),
    ("machines", "flipped", ("machine",), (THIRD,), (WRONG_MACHINE,)),
    ("sure", "sure_of", ("machine",), (THIRD,), (WRONG_MACHINE,)),
    ("sure", "way_to", ("machine", "room"), (THIRD, 3), (WRONG_MACHINE, NO_ROOM_OF_THIRD)),
    ("sure", "classes", ("machine",), (THIRD,), (WRONG_MACHINE,)),
    ("sure", "part_word", ("one", "two"), (EVEN, EVEN), (WRONG_MACHINE, WRONG_MACHINE)),
    ("sure", "alike", ("one", "two"), (EVEN, EVEN), (WRONG_MACHINE, WRONG_MACHINE)),
    ("sure", "within", ("one", "two"), (EVEN, EVEN), (WRONG_MACHINE, WRONG_MACHINE)),
)


def function(module, name):
    return getattr(importlib.import_module("undertwo." + module), name)


class Interface(Case):

    def test_each_function_stands_in_its_file_with_its_arguments(self):
        for module, name, arguments, good, _ in FUNCTIONS:
            action = function(module, name)
            self.assertTrue(inspect.isfunction(action))
            self.assertEqual((action.__module__, action.__name__), ("undertwo." + module, name))
            self.assertEqual(tuple(inspect.signature(action).parameters), arguments, name)
            self.assertEqual(len(good), len(arguments))

    def test_by_position_and_by_name(self):
        for module, name, arguments, good, _ in FUNCTIONS:
            action = function(module, name)
            told = action(*good)
            named = dict(zip(arguments, good))
            self.assertEqual(action(**named), told, name)
            self.assertEqual(action(**dict(reversed(list(named.items())))), told, name)
            self.assertEqual(action(*good), told, name)
            self.tuples_only(told)


class Wrong(Case):

    def test_each_argument(self):
        for module, name, arguments, good, wrong in FUNCTIONS:
            action = function(module, name)
            for at, things in enumerate(wrong or ()):
                for thing, kind, what in things:
                    given = good[:at] + (thing,) + good[at + 1:]
                    self.refused(kind, what, action, *given)
                    self.refused(kind, what, action, **dict(zip(arguments, given)))

    def test_the_first_of_two_wrong_arguments_is_told(self):
        for module, name, arguments, good, wrong in FUNCTIONS:
            action = function(module, name)
            for one, two in itertools.combinations(range(len(good)), 2):
                for (thing, kind, what), (other, _, _) in itertools.product(wrong[one], wrong[two]):
                    given = list(good)
                    given[one] = thing
                    given[two] = other
                    self.refused(kind, what, action, *given)
                    if type(other) is not tuple:
                        self.refused(kind, what, action, **dict(reversed(list(zip(arguments, given)))))

    def test_judges_return_false(self):
        is_row, is_machine = function("rows", "is_row"), function("machines", "is_machine")
        for thing, _, _ in WRONG_ROW:
            self.is_false(is_row(thing))
            self.is_false(is_machine(thing))
        for thing, _, _ in WRONG_MACHINE:
            self.is_false(is_machine(thing))
        for thing in (EVEN, THIRD):
            self.is_false(is_row(thing))

    def test_nothing_that_is_handed_in_is_changed(self):
        held = [1, [2, [3]], (4, [5])]
        for module, name, _, good, wrong in FUNCTIONS:
            action = function(module, name)
            for at in range(len(good)):
                # A room or a lot is checked late, a list in a tuple not before the items ahead of it.
                for thing in (held, (held,), (1, held)):
                    given = good[:at] + (thing,) + good[at + 1:]
                    try:
                        self.assertIs(action(*given), False)
                    except errors.Refused:
                        pass
        self.assertEqual(held, [1, [2, [3]], (4, [5])])

    def test_the_wrong_values_are_of_all_kinds(self):
        for name, things in vars(common).items():
            if name.startswith("WRONG"):
                kinds = {type(thing) for thing, _, _ in things}
                self.assertLessEqual({tuple, list, int, str, bool, type(None)}, kinds, name)


if __name__ == "__main__":
    unittest.main()
