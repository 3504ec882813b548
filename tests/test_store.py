"""[26], [26.1] and [26.2] The store."""

import inspect
import itertools
import unittest

from tests.common import EVEN, NO_NAMES, NO_TEXTS, THIRD, WRONG_MACHINE, WRONG_NAMES, WRONG_TEXT, Case, Chances, no_words
from tests.test_machinetexts import some_machine, with_blanks, words_of_text
from undertwo.errors import (BadName, BadText, Full, NoLaw, NoName, NoRoom, NothingAgain, NothingBack, Order, Refused,
                             TooMany, Twice, Unlike)
from undertwo.lawtexts import print_machine
from undertwo.store import Store, read_store

CHANCES = Chances(26)
LETTERS = ("a", "b1", "off", "z" * 12)
METHODS = {"put": ("name", "names", "machine"), "drop": ("name",), "names": (), "pair": ("name",), "back": (),
           "again": (), "text": ()}
EVEN_TEXT = "even (a) rooms 2; starts 0; ends 0; 0 a 1, 1 a 0"


class Model:
    """All states that the store was in, each a dict, and which one is now."""

    def __init__(self):
        self.states = [{}]
        self.now = 0

    def laws(self):
        return self.states[self.now]

    def change(self, laws):
        self.states = self.states[:self.now + 1] + [laws]
        self.now += 1

    def put(self, name, names, machine):
        if machine[0] != len(names):
            raise Unlike(0)
        if name not in self.laws() and len(self.laws()) == 20:
            raise Full(20)
        self.change(dict(self.laws(), **{name: (names, machine)}))

    def drop(self, name):
        if name not in self.laws():
            raise NoLaw(name)
        self.change({other: pair for other, pair in self.laws().items() if other != name})

    def back(self):
        if self.now == 0:
            raise NothingBack(0)
        self.now -= 1
        return tuple(sorted(self.laws()))

    def again(self):
        if self.now == len(self.states) - 1:
            raise NothingAgain(0)
        self.now += 1
        return tuple(sorted(self.laws()))

    def text(self):
        return " | ".join(f"{name} ({' '.join(names)}) {print_machine(names, machine)}"
                          for name, (names, machine) in sorted(self.laws().items())) or "-"


def done(thing, name, given):
    try:
        return getattr(thing, name)(*given)
    except Refused as error:
        return (type(error), error.what)


def full_store(many):
    store = Store()
    for at in range(many):
        store.put(f"l{at:02d}", ("a",), EVEN)
    return store


class Changes(Case):

    def same(self, store, model):
        self.assertEqual(store.names(), tuple(sorted(model.laws())))
        for name in store.names():
            self.assertEqual(store.pair(name), model.laws()[name])
            self.tuples_only(store.pair(name))
        self.assertEqual(store.text(), model.text())

    def some_change(self, names):
        chance = CHANCES.below(10)
        name = names[CHANCES.below(len(names))]
        if chance < 5:
            letters = 1 + CHANCES.below(4)
            machine = some_machine(letters if CHANCES.below(8) else 1 + letters % 4)
            return "put", (name, LETTERS[:letters], machine)
        if chance < 7:
            return "drop", (name,)
        return ("back", "again")[CHANCES.below(2)], ()

    def test_beside_a_model(self):
        kinds = set()
        for many in (3, 8, 40):
            store, model = Store(), Model()
            names = [f"n{at}" for at in range(many)]
            for _ in range(300):
                name, given = self.some_change(names)
                told, wanted = done(store, name, given), done(model, name, given)
                self.assertEqual(told, wanted, (name, given))
                kinds.add((name, told[0].__name__ if told and isinstance(told[0], type) else "done"))
                self.same(store, model)
            # There is no bound on what can be undone.
            while model.now:
                self.assertEqual(store.back(), model.back())
            self.refused(NothingBack, 0, store.back)
            self.same(store, model)
            while model.now < len(model.states) - 1:
                self.assertEqual(store.again(), model.again())
            self.refused(NothingAgain, 0, store.again)
            self.same(store, model)
        self.assertLessEqual({("put", "done"), ("put", "Unlike"), ("drop", "done"), ("drop", "NoLaw"),
                              ("back", "done"), ("again", "done"), ("again", "NothingAgain")}, kinds)

    def test_1000_changes(self):
        store = Store()
        for at in range(1000):
            self.assertIsNone(store.put("a", ("a",), (1, at % 41, (), (), ())))
        for at in range(998, -1, -1):
            self.assertEqual(store.back(), ("a",))
            self.assertEqual(store.pair("a")[1][1], at % 41)
        self.assertEqual(store.back(), ())
        self.refused(NothingBack, 0, store.back)
        for _ in range(1000):
            self.assertEqual(store.again(), ("a",))
        self.refused(NothingAgain, 0, store.again)

    def test_a_put_of_what_is_there_is_a_change(self):
        store = full_store(1)
        store.put("l00", ("a",), EVEN)
        self.assertEqual((store.back(), store.back()), (("l00",), ()))
        self.refused(NothingBack, 0, store.back)
        store.again()
        store.put("l00", ("a",), EVEN)
        self.refused(NothingAgain, 0, store.again)

    def test_the_old_names_of_the_letters_are_gone(self):
        store = Store()
        store.put("x", ("a", "b"), THIRD)
        store.put("x", ("c",), EVEN)
        self.assertEqual(store.pair("x"), (("c",), EVEN))
        self.assertEqual(store.names(), ("x",))
        store.back()
        self.assertEqual(store.pair("x"), (("a", "b"), THIRD))

    def test_machines_are_kept_as_they_were_handed_in(self):
        wide = (1, 4, (3,), (3,), ((0, 0, 1), (3, 0, 2)))
        store = Store()
        store.put("x", ("a",), wide)
        self.assertEqual(store.pair("x"), (("a",), wide))

    def test_names_ascend(self):
        store = Store()
        for name in ("b", "a10", "a9", "a", "zz", "z"):
            store.put(name, ("a",), EVEN)
        self.assertEqual(store.names(), ("a", "a10", "a9", "b", "z", "zz"))
        self.assertTrue(store.text().startswith("a (a) rooms 2;"))
        self.assertEqual([part.split(" ")[0] for part in store.text().split(" | ")], list(store.names()))

    def test_20_laws_and_a_21st(self):
        store = full_store(20)
        text = store.text()
        self.refused(Full, 20, store.put, "x", ("a",), EVEN)
        self.assertEqual(store.text(), text)
        # One that is there can be put again, and one more when one was dropped.
        self.assertIsNone(store.put("l07", ("a", "b"), THIRD))
        self.assertEqual(len(store.names()), 20)
        self.refused(Full, 20, store.put, "x", ("a",), EVEN)
        self.assertIsNone(store.drop("l00"))
        self.assertIsNone(store.put("x", ("a",), EVEN))
        self.assertEqual(len(store.names()), 20)
        self.assertEqual((len(store.back()), len(store.back())), (19, 20))
        self.assertEqual(store.names()[0], "l00")

    def test_refused_changes_change_nothing(self):
        store = full_store(2)
        store.drop("l00")
        store.back()
        for name, given in (("put", ("A", ("a",), EVEN)), ("put", ("x", (), EVEN)), ("put", ("x", ("a",), ())),
                            ("put", ("x", ("a",), THIRD)), ("drop", ("x",)), ("drop", (None,)), ("pair", ("x",))):
            self.assertIsInstance(done(store, name, given)[0], type)
            self.assertEqual(store.names(), ("l00", "l01"))
        self.assertEqual((store.again(), store.back(), store.back()), (("l01",), ("l00", "l01"), ("l00",)))

    def test_stores_do_not_touch_one_another(self):
        one, two = full_store(2), Store()
        self.assertEqual(two.names(), ())
        two.put("x", ("a",), EVEN)
        one.drop("l00")
        self.assertEqual((one.names(), two.names()), (("l01",), ("x",)))
        three = read_store(one.text())
        three.drop("l01")
        self.assertEqual(one.names(), ("l01",))


class Arguments(Case):

    def test_put(self):
        store = full_store(20)
        for name in NO_NAMES:
            self.refused(BadName, 0, store.put, name, None, None)
        for thing, kind, what in WRONG_NAMES:
            self.refused(kind, what, store.put, "x", thing, None)
        for thing, kind, what in WRONG_MACHINE:
            self.refused(kind, what, store.put, "x", ("a",), thing)
        self.refused(Unlike, 0, store.put, "x", ("a",), THIRD)
        self.refused(Unlike, 0, store.put, "x", ("a", "b", "c"), THIRD)
        self.refused(Full, 20, store.put, "x", ("a",), EVEN)
        self.refused(Unlike, 0, store.put, "l00", ("a", "b"), EVEN)
        self.assertIsNone(store.put(machine=EVEN, names=("a",), name="l00"))

    def test_names_of_12_signs_and_13(self):
        store = Store()
        store.put("x" * 12, ("a",), EVEN)
        self.assertEqual(store.names(), ("x" * 12,))
        self.refused(BadName, 0, store.put, "x" * 13, ("a",), EVEN)
        for name in ("put", "cut", "size", "undo", "redo", "seen", "wipe", "sure", "at"):
            store.put(name, ("a",), EVEN)
            self.assertEqual(store.pair(name), (("a",), EVEN))

    def test_no_law(self):
        store = full_store(3)
        held = [1, [2]]
        for name in NO_TEXTS + ("", "x", "l03", "L00", "o", "l00 ", held, (held,), ((1,), [2])):
            for action in (store.drop, store.pair):
                self.refused(NoLaw, name, action, name)
                self.refused(NoLaw, name, action, name=name)
        self.assertEqual(held, [1, [2]])

    def test_methods_stand_in_the_class(self):
        self.assertEqual(Store.__module__, "undertwo.store")
        self.assertEqual(tuple(inspect.signature(Store).parameters), ())
        for name, arguments in METHODS.items():
            self.assertIn(name, vars(Store))
            self.assertEqual(tuple(inspect.signature(vars(Store)[name]).parameters), ("self",) + arguments)
        self.assertEqual(read_store.__module__, "undertwo.store")
        self.assertEqual(tuple(inspect.signature(read_store).parameters), ("text",))

    def test_nothing_to_undo_at_the_beginning(self):
        for store in (Store(), read_store("-"), read_store(text=EVEN_TEXT)):
            self.refused(NothingBack, 0, store.back)
            self.refused(NothingAgain, 0, store.again)


class Texts(Case):

    def test_there_and_back(self):
        for _ in range(150):
            store = Store()
            for _ in range(CHANCES.below(6)):
                letters = 1 + CHANCES.below(4)
                store.put(f"n{CHANCES.below(99)}", LETTERS[:letters], some_machine(letters))
            text = store.text()
            told = read_store(text)
            self.assertIsInstance(told, Store)
            self.assertEqual(told.names(), store.names())
            self.assertEqual([told.pair(name) for name in told.names()], [store.pair(name) for name in store.names()])
            self.assertEqual(told.text(), text)
            self.refused(NothingBack, 0, told.back)
            self.refused(NothingAgain, 0, told.again)
            # With other blanks, and the laws in another order.
            laws = text.split(" | ")
            laws = laws[1:] + laws[:1]
            self.assertEqual(read_store(with_blanks(words_of_text(" | ".join(laws)))).text(), text)

    def test_the_example(self):
        store = Store()
        self.assertEqual(store.text(), "-")
        store.put("even", ("a",), EVEN)
        store.put("never", ("a", "b"), no_words(2))
        self.assertEqual(store.text(), EVEN_TEXT + " | never (a b) rooms 0; starts -; ends -; -")

    def test_changes_of_a_store_that_was_read(self):
        store = read_store(EVEN_TEXT)
        store.put("x", ("a", "b"), THIRD)
        store.drop("even")
        self.assertEqual((store.names(), store.back(), store.back()), (("x",), ("even", "x"), ("even",)))
        self.refused(NothingBack, 0, store.back)
        self.assertEqual(store.pair("even"), (("a",), EVEN))

    def test_20_laws_and_a_21st(self):
        small = "(a)rooms 0;starts -;ends -;-"
        laws = [f"l{at}{small}" for at in range(20)]
        self.assertEqual(len(read_store("|".join(laws)).names()), 20)
        text = "|".join(laws) + "|"
        for name in ("l20", "l0", "l19"):
            # The number of laws is asked before the name.
            self.refused(TooMany, len(text), read_store, text + name + " )")
        for word in ("-", "1", "any", ""):
            self.refused(BadText, len(text), read_store, text + word)
        text = "|".join(laws[:19]) + "|"
        self.refused(Twice, len(text), read_store, text + "l3")
        self.refused(Full, 20, read_store("|".join(laws)).put, "x", ("a",), EVEN)

    def test_names_of_letters(self):
        rest = ") rooms 0; starts -; ends -; -"
        self.assertEqual(read_store("x (a b c d" + rest).pair("x"), (("a", "b", "c", "d"), no_words(4)))
        for text, kind, what in (("x (a b c d e" + rest, TooMany, 11), ("x (a b c d a )", TooMany, 11),
                                 ("x (b a" + rest, Order, 5), ("x (a a )", Order, 5), ("x (a c b b )", Order, 7),
                                 ("x (a b" + rest + " | x (b a )", Twice, 39), ("x (" + rest, BadText, 3),
                                 ("x (any" + rest, BadText, 3), ("x (a | b )", BadText, 5), ("x (a 1 )", BadText, 5),
                                 ("x a" + rest, BadText, 2), ("x ((a" + rest, BadText, 3), ("x (a", BadText, 4),
                                 ("x (a b c d 1", BadText, 11)):
            self.refused(kind, what, read_store, text)

    def test_questions_of_the_machine(self):
        head = "x (a b) "
        for text, kind, what in (("rooms 41 )", TooMany, 14), ("rooms 2; starts 2 )", NoRoom, 24),
                                 ("rooms 2; starts 1 1 )", Twice, 26), ("rooms 2; starts 1; ends 0; 0 c 9", NoName, 37),
                                 ("rooms 2; starts 1; ends 0; 0 b 0, 0 b 0 )", Twice, 42),
                                 ("rooms 2; starts 1; ends 0; 0 b 0, 0 b 2 )", NoRoom, 46),
                                 ("rooms 2; starts 1; ends 0; 0 b 0 )", BadText, 41),
                                 ("rooms 2; starts 1; ends 0; - x", BadText, 37),
                                 ("rooms 2; starts 1; ends 0; 0 b 0 | x", Twice, 43)):
            self.refused(kind, what, read_store, head + text)

    def test_what_can_stand(self):
        whole = "x (a) rooms 1; starts 0; ends -; 0 a 0 | y1 (a b) rooms 0; starts -; ends -; -"
        words = words_of_text(whole)
        self.assertEqual(read_store(whole).names(), ("x", "y1"))
        wrong = ("law", "1a", "+", ".", "#", "a" * 13, "9" * 31, "=", "*", "A")
        for at in range(len(words) + 1):
            ahead = " ".join(words[:at])
            for word in wrong:
                text = (ahead + " " + word).strip()
                self.refused(BadText, len(text) - len(word), read_store, text + " )")
            if 0 < at < len(words) and words[at] != "|":
                self.refused(BadText, len(ahead), read_store, ahead)
        self.refused(BadText, 0, read_store, "")
        self.refused(BadText, 3, read_store, "   ")
        for text, place in (("- -", 2), ("- x", 2), ("x", 1), (whole + " |", len(whole) + 2), ("| x", 0),
                            ("(a) x", 0), ("1", 0), ("-|", 1)):
            self.refused(BadText, place, read_store, text)

    def test_texts_of_many_signs(self):
        every = tuple(itertools.product(range(40), range(4), range(40)))
        store = Store()
        store.put("x", ("a", "b", "c", "d"), (4, 40, (), (), every[:1900]))
        self.assertLess(len(store.text()), 20000)
        self.assertEqual(read_store(store.text()).pair("x")[1][4], every[:1900])
        store.put("y", ("a", "b", "c", "d"), (4, 40, (), (), every))
        text = store.text()
        self.assertGreater(len(text), 20000)
        self.refused(BadText, 20000, read_store, text)
        self.assertEqual(read_store(EVEN_TEXT + " " * (20000 - len(EVEN_TEXT))).names(), ("even",))
        self.refused(BadText, 20000, read_store, EVEN_TEXT + " " * (20001 - len(EVEN_TEXT)))

    def test_wrong_texts(self):
        for thing, kind, what in WRONG_TEXT:
            self.refused(kind, what, read_store, thing)


if __name__ == "__main__":
    unittest.main()
