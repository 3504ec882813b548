"""[0.1] to [0.4] The whole program: what holds of all of it, and how its parts work together."""

import ast
import importlib
import inspect
import itertools
import pathlib
import unittest

from tests.common import EVEN, Case, Chances, all_words, let_words
from tests.test_kept import mixed_inspector
from tests.test_wrong import FUNCTIONS, function
from undertwo import errors
from undertwo.apart import apart, clear
from undertwo.breaker import broken
from undertwo.errors import Refused
from undertwo.inspectors import passes
from undertwo.inspectortexts import print_inspector, read_inspector
from undertwo.kept import kept
from undertwo.lawtexts import print_machine, read_law, read_machine
from undertwo.leastrooms import least_machine, least_rooms
from undertwo.lines import sizes, stations
from undertwo.linetexts import print_line, read_line
from undertwo.machines import lets, trimmed
from undertwo.madewords import inspector
from undertwo.maker import thin_rows
from undertwo.painter import paint
from undertwo.plans import shortest
from undertwo.prices import law_price, price, sure_from
from undertwo.rowtexts import print_rows, read_rows
from undertwo.session import Session
from undertwo.store import Store, read_store
from undertwo.sure import alike
from undertwo.thick import fits, least_density, thickness
from undertwo.track import Track

FOLDER = pathlib.Path(__file__).resolve().parent.parent / "undertwo"
CHANCES = Chances(1)
AB = ("a", "b")
CLASSES = {
    ("track", "Track"): ("line", "word", "lengths", "rooms", "put", "drop", "resize", "back", "again", "wiped", "seen"),
    ("store", "Store"): ("put", "drop", "names", "pair", "back", "again", "text"),
    ("session", "Session"): ("row",)}
LAWS = ("b* (a b* a b*)*", "any* a", "a any*", "(a b)*", "(a | b b)*", "any* a any", "!(any* a a any*)", "a? b?",
        "(a a a | b)*", "empty | any any", "(a b?)*", "any* (a b | b a)")


class Form(Case):

    def test_functions_and_classes_are_defined_in_their_files(self):
        wanted = {(module, name) for module, name, *_ in FUNCTIONS} | set(CLASSES) | {("store", "read_store")}
        for module, name in wanted:
            tree = ast.parse((FOLDER / f"{module}.py").read_text(encoding="utf-8"))
            self.assertIn(name, [node.name for node in tree.body if isinstance(node, (ast.FunctionDef, ast.ClassDef))])

    def test_methods_are_defined_in_their_classes(self):
        for (module, name), methods in CLASSES.items():
            tree = ast.parse((FOLDER / f"{module}.py").read_text(encoding="utf-8"))
            body = [node for node in tree.body if getattr(node, "name", "") == name][0].body
            there = {node.name for node in body if isinstance(node, ast.FunctionDef)}
            self.assertLessEqual(set(methods), there)
            public = {method for method in there if not method.startswith("_")}
            self.assertEqual(public, set(methods))

    def test_all_errors_stand_under_refused_and_none_under_another_one(self):
        kinds = [kind for kind in vars(errors).values() if inspect.isclass(kind)]
        self.assertEqual(len(kinds), 49)
        for kind in kinds:
            self.assertTrue(issubclass(kind, Refused) and issubclass(kind, ValueError))
            self.assertEqual([other for other in kinds if other not in (Refused, kind) and issubclass(kind, other)], [])

    def test_what_is_returned_is_of_the_told_kinds(self):
        for module, name, _, good, _ in FUNCTIONS:
            self.tuples_only(function(module, name)(*good))
        track = Track(EVEN, 4, (0, 0), (12, 13, 14))
        for told in (track.line(), track.word(), track.lengths(), track.rooms(), track.resize(0, 13), track.back(),
                     track.again(), track.wiped(15), track.seen(0)):
            self.tuples_only(told)
        store = Store()
        for told in (store.put("x", ("a",), EVEN), store.names(), store.pair("x"), store.text(), store.back(),
                     store.again(), store.drop("x")):
            self.tuples_only(told)
        self.assertIsInstance(Session().row("line"), str)

    def test_the_same_for_the_same_arguments_behind_other_calls(self):
        first = [function(module, name)(*good) for module, name, _, good, _ in FUNCTIONS]
        session = Session()
        for row in ("law x (a b) any* a", "paint x 4 : 12 a 12", "size 0 30", "drop x"):
            session.row(row)
        again = [function(module, name)(*good) for module, name, _, good, _ in reversed(FUNCTIONS)]
        self.assertEqual(again[::-1], first)

    def test_modules_can_be_imported_alone(self):
        for path in FOLDER.glob("*.py"):
            self.assertIsNotNone(importlib.import_module(f"undertwo.{path.stem}").__doc__)


class Holds(Case):

    def test_rows(self):
        # (a): whatever fits is made, and what is made fits.
        for k in (3, 6, 9, 14):
            for many in (1, 2, 3):
                for ts in itertools.product(range(1, k + 1), repeat=many):
                    if fits(k, ts):
                        rows = thin_rows(k, ts)
                        self.is_true(apart(k, rows) and clear(k, rows))
                        told = [thickness(k, row) for row in rows]
                        self.assertTrue(all(one >= two for one, two in zip(told, ts)))
                        self.is_true(fits(k, tuple(told)))
                        self.assertEqual(read_rows(print_rows(rows)), rows)
        self.assertEqual(least_density(15, 2), price(15, 3))

    def test_laws_and_their_prices(self):
        # (b): the inspector made for the least machine keeps the law at the price, and no less.
        for text in LAWS:
            machine = least_machine(read_law(AB, text))
            rooms = least_rooms(machine)
            if rooms > 5:
                continue
            k = sure_from(rooms)
            limit = law_price(machine, k)
            self.assertEqual(limit, price(k, rooms))
            told = inspector(machine, k)
            self.is_true(alike(kept(told, 2, limit), machine))
            self.assertIsNone(broken(told, machine, limit))
            for below in ((0, 1), (1, limit[1] // limit[0] + 1 if limit[0] else 1000)):
                if below[0] * limit[1] < limit[0] * below[1]:
                    self.assertEqual(broken(told, machine, below)[0], "thick")
                    self.is_false(alike(kept(told, 2, below), machine))
            self.assertEqual(read_machine(AB, print_machine(AB, machine)), machine)

    def test_no_inspector_keeps_a_law_below_its_price(self):
        # (b) and (c): some inspectors, none of them made for the laws.
        shown = {"passes": 0, "thick": 0}
        machines = [least_machine(read_law(AB, text)) for text in LAWS]
        for k, plain, other in ((1, 7, 6), (2, 6, 4), (2, 8, 5)):
            for _ in range(25):
                inspector_ = mixed_inspector(k, 2, plain, other)
                for machine in machines:
                    above, below = law_price(machine, k)
                    for limit in ((0, 1), (1, 4), (1, 2), (2, 3)):
                        if limit[0] * below < above * limit[1]:
                            told = broken(inspector_, machine, limit)
                            self.assertIsNotNone(told)
                            shown[told[0]] += 1
                            if told[0] == "passes":
                                self.is_true(passes(inspector_, told[2]))
                                self.is_false(lets(machine, stations(told[2])))
                                self.assertGreaterEqual(min(sizes(told[2])), inspector_[1])
        self.assertGreater(min(shown.values()), 100)

    def test_painted_lines_pass_and_what_passes_is_legal(self):
        # (d): before and behind edits; and lines that pass have stations that the law lets.
        for text in LAWS:
            machine = trimmed(least_machine(read_law(AB, text)))
            if machine[1] > 3:
                continue
            k = sure_from(machine[1])
            least = shortest(k, machine[1])
            told = inspector(machine, k)
            let = [word for word in let_words(machine, 3)]
            for word in let:
                lengths = (least + CHANCES.below(20),) * (len(word) + 1)
                track = Track(machine, k, word, lengths)
                for _ in range(4):
                    try:
                        track.put(CHANCES.below(len(track.lengths())), CHANCES.below(2), least)
                    except Refused:
                        track.resize(0, 3 * least + CHANCES.below(9))
                    self.is_true(passes(told, track.line()))
                    self.assertEqual(track.line(), paint(machine, k, track.word(), track.lengths()))
                    self.check_other_stations(machine, told, track.line())
                    self.assertEqual(read_line(AB, print_line(AB, track.line())), track.line())
            if len(told[2]) * (k + 2) < 19000:
                self.assertEqual(read_inspector(print_inspector(told)), told)

    def check_other_stations(self, machine, told, line):
        for at, cell in enumerate(line):
            if cell > 2:
                other = line[:at] + (7 - cell,) + line[at + 1:]
                if passes(told, other):
                    self.is_true(lets(machine, stations(other)))

    def test_limits(self):
        # Each at its greatest, in one run through the modules.
        machine = (4, 40, (0,), (39,), tuple((room, letter, room + 1) for room in range(39) for letter in range(4)))
        self.is_true(lets(machine, (0, 1, 2, 3) * 9 + (0, 1, 2)))
        names = ("a", "b", "c", "d")
        self.assertEqual(read_machine(names, print_machine(names, machine)), machine)
        line = paint(all_words(4, (0, 1, 2, 3)), 60, (0, 1, 2, 3) * 5, (284,) * 20 + (300,))
        self.assertEqual(len(line), 6000)
        self.assertEqual(read_line(names, print_line(names, line)), line)
        self.is_true(passes(inspector(all_words(4, (0, 1, 2, 3)), 60), line))
        store = Store()
        for at in range(20):
            store.put(f"l{at}", names, (4,) + EVEN[1:])
        self.assertEqual(read_store(store.text()).text(), store.text())


if __name__ == "__main__":
    unittest.main()
