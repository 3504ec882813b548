"""[25.5] Texts of machines."""

import itertools
import unittest

from tests.common import EVEN, THIRD, WRONG_MACHINE, WRONG_NAMES, WRONG_TEXT, Case, Chances, ring
from undertwo.errors import BadMachine, BadNames, BadText, NoName, NoRoom, TooMany, Twice, Unlike
from undertwo.lawtexts import print_machine, read_machine
from undertwo.machines import is_machine

CHANCES = Chances(255)
A = ("a",)
AB = ("a", "b")
GOOD = "rooms 2; starts 0; ends 0; 0 a 1, 1 a 0"


def some_machine(letters):
    return CHANCES.machine(letters, CHANCES.below(7), CHANCES.below(12))


def shuffled(things):
    things = list(things)
    return [things.pop(CHANCES.below(len(things))) for _ in range(len(things))]


def blank():
    return " " * CHANCES.below(3)


def words_of_text(text):
    """The words of a text, cut at blanks and single signs."""
    words = []
    for part in text.split(" "):
        run = ""
        for sign in part:
            if sign.isalnum():
                run += sign
            else:
                words += [run] if run else []
                words.append(sign)
                run = ""
        words += [run] if run else []
    return words


def with_blanks(words):
    """A text of the words, with as many blanks between as may be; some where two runs are neighbours."""
    text = blank()
    for before, word in zip([""] + words, words):
        needed = " " if before.isalnum() and word.isalnum() else ""
        text += needed + blank() + word
    return text + blank()


def text_of(names, machine):
    """The text of a machine with its parts in any order and any blanks."""
    _, rooms, starts, ends, moves = machine
    words = ["rooms", str(rooms), ";", "starts"] + ([str(room) for room in shuffled(starts)] or ["-"])
    words += [";", "ends"] + ([str(room) for room in shuffled(ends)] or ["-"]) + [";"]
    told = [[str(one), names[letter], str(two)] for one, letter, two in shuffled(moves)]
    for at, move in enumerate(told):
        words += ([","] if at else []) + move
    return with_blanks(words + ([] if told else ["-"]))


class Machines(Case):

    def test_there_and_back(self):
        for _ in range(300):
            letters = 1 + CHANCES.below(4)
            names = ("a", "b1", "off", "z" * 12)[:letters]
            machine = some_machine(letters)
            told = read_machine(names, text_of(names, machine))
            self.assertEqual(told, machine)
            self.tuples_only(told)
            self.is_true(is_machine(told))
            text = print_machine(names, machine)
            self.assertIs(type(text), str)
            self.assertEqual(read_machine(names, text), machine)
            # The words of what is printed are those of the text with its parts in ascending order.
            _, rooms, starts, ends, moves = machine
            wanted = f"rooms {rooms}; starts {self.list(starts)}; ends {self.list(ends)}; " + (", ".join(
                f"{one} {names[letter]} {two}" for one, letter, two in sorted(moves)) or "-")
            self.assertEqual(text, wanted)

    def list(self, rooms):
        return " ".join(map(str, sorted(rooms))) if rooms else "-"

    def test_the_examples(self):
        self.assertEqual(print_machine(A, EVEN), GOOD)
        self.assertEqual(read_machine(("off", "on"), "rooms 2;starts 1 0;ends -;1 on 0,0 off 1"),
                         (2, 2, (0, 1), (), ((0, 0, 1), (1, 1, 0))))
        self.refused(Twice, 18, read_machine, A, "rooms 1; starts 0 0; ends -; -")
        self.assertEqual(print_machine(AB, (2, 0, (), (), ())), "rooms 0; starts -; ends -; -")

    def test_as_many_letters_as_names(self):
        for names in (A, AB, ("a", "b", "c"), ("a", "b", "c", "d")):
            self.assertEqual(read_machine(names, GOOD)[0], len(names))
        self.assertEqual(read_machine(AB, "rooms 1;starts 0;ends 0;0 b 0"), (2, 1, (0,), (0,), ((0, 1, 0),)))
        self.refused(BadText, 25, read_machine, AB, "rooms 1;starts 0;ends 0; 0b0")

    def test_40_rooms_and_41(self):
        machine = ring(40, (39,))
        self.assertEqual(read_machine(A, print_machine(A, machine)), machine)
        self.assertEqual(read_machine(A, "rooms 40; starts 39; ends -; -"), (1, 40, (39,), (), ()))
        self.refused(TooMany, 6, read_machine, A, "rooms 41; starts 40; ends -; -")
        self.refused(TooMany, 6, read_machine, A, "rooms 41 )")
        self.refused(TooMany, 8, read_machine, A, "  rooms " + "9" * 30)
        self.refused(BadText, 6, read_machine, A, "rooms " + "9" * 31)
        self.refused(NoRoom, 17, read_machine, A, "rooms 40; starts 40; ends -; -")

    def test_numbers(self):
        for number, right in (("0", True), ("00", False), ("01", False), ("007", False), ("1", True)):
            text = f"rooms 2; starts {number}; ends -; -"
            if right:
                self.assertEqual(read_machine(A, text), (1, 2, (int(number),), (), ()))
            else:
                self.refused(BadText, 16, read_machine, A, text)
        self.refused(NoRoom, 16, read_machine, A, "rooms 2; starts " + "1" * 30)
        self.refused(BadText, 16, read_machine, A, "rooms 2; starts " + "1" * 31)
        self.refused(BadText, 17, read_machine, A, "rooms 2; starts -1; ends -; -")

    def test_texts_of_many_signs(self):
        every = tuple(itertools.product(range(40), range(4), range(40)))
        machine = (4, 40, tuple(range(40)), tuple(range(40)), every)
        text = print_machine(("a", "b", "c", "d"), machine)
        self.assertGreater(len(text), 20000)
        self.assertEqual(text.count(","), 6399)
        self.refused(BadText, 20000, read_machine, ("a", "b", "c", "d"), text)
        some = (4, 40, (0,), (0,), every[:2000])
        text = print_machine(("a", "b", "c", "d"), some)
        self.assertLess(len(text), 20000)
        self.assertEqual(read_machine(("a", "b", "c", "d"), text), some)
        self.assertEqual(read_machine(("a", "b", "c", "d"), text + " " * (20000 - len(text))), some)
        self.refused(BadText, 20000, read_machine, ("a", "b", "c", "d"), text + " " * (20001 - len(text)))


class Grammar(Case):

    def texts(self):
        """Lists of words of machines with few starts, ends and moves."""
        lists = (["-"], ["0"], ["1"], ["0", "1"])
        moves = (["-"], ["0", "a", "1"], ["1", "b", "0"], ["0", "a", "1", ",", "1", "b", "0"])
        for starts, ends, told in itertools.product(lists, lists, moves):
            yield ["rooms", "2", ";", "starts"] + starts + [";", "ends"] + ends + [";"] + told

    def test_the_first_word_that_cannot_stand(self):
        """At each place each word of the grammar, and others: refused unless some text goes on so."""
        can = {}
        whole = set()
        for words in self.texts():
            whole.add(tuple(words))
            for at in range(len(words)):
                can.setdefault(tuple(words[:at]), set()).add(words[at])
        others = ("rooms", "starts", "ends", ";", ",", "-", "0", "1", "a", "b", "c1", "o", "any", "|", "(", "+", "01",
                  "1a", "A", ".", "k", "law", "a" * 13)
        kinds = {"0": "number", "1": "number", "2": "number", "a": "name", "b": "name", "c1": "name"}
        tried = 0
        for ahead, following in can.items():
            let = {kinds.get(word, word) for word in following}
            # Behind a list or a move more can always follow.
            for word in others:
                text = " ".join(ahead + (word,))
                place = len(text) - len(word)
                if kinds.get(word, word) in let or self.more_of_a_list(ahead, word):
                    self.refused_elsewhere(text, place)
                else:
                    self.refused(BadText, place, read_machine, AB, text)
                    tried += 1
            if ahead not in whole:
                text = " ".join(ahead)
                self.refused(BadText, len(text), read_machine, AB, text)
                self.refused(BadText, len(text) + 2, read_machine, AB, text + "  ")
        self.assertGreater(tried, 1000)

    def more_of_a_list(self, ahead, word):
        """Whether a list of rooms, or the moves, have had as many parts as `texts` gives them, and go on."""
        if word in ("0", "1"):
            return ahead[-2:] in (("0", "1"), ("starts", "1"), ("ends", "1")) and ahead.count(";") < 3
        return word == "," and ahead[-3:] in (("0", "a", "1"), ("1", "b", "0"))

    def refused_elsewhere(self, text, place):
        """The last word can stand: what is refused is the end, or a question of the word."""
        try:
            read_machine(AB, text)
        except BadText as error:
            self.assertEqual(error.what, len(text))
        except (NoName, Twice, NoRoom) as error:
            self.assertLessEqual(error.what, place)

    def test_further_words(self):
        for text, place in ((GOOD + " 0", 40), (GOOD + ";", 39), (GOOD + " -", 40), (GOOD + ",", 40),
                            (GOOD + ", -", 41), ("rooms 2; starts -; ends -; -, 0 a 0", 28),
                            ("rooms 2; starts - 0", 18), ("rooms 2; starts 0 -", 18), ("rooms 2; starts ;", 16),
                            ("rooms2; starts", 0), ("rooms 2 starts", 8), ("room 2", 0), ("Rooms 2", 0)):
            self.refused(BadText, place, read_machine, A, text)


class Questions(Case):

    def test_rooms(self):
        for text, kind, what in (
                ("rooms 2; starts 2; ends 9; -", NoRoom, 16), ("rooms 2; starts 0 1 2 )", NoRoom, 20),
                ("rooms 2; starts 0; ends 2", NoRoom, 24), ("rooms 2; starts 0; ends 0; 2 a 0", NoRoom, 27),
                ("rooms 2; starts 0; ends 0; 0 a 2", NoRoom, 31), ("rooms 0; starts 0; ends -; -", NoRoom, 16),
                ("rooms 2; starts 0; ends 0; 0 a 1, 1 a 2", NoRoom, 38),
                ("rooms 2; starts 0 0; ends 0; -", Twice, 18), ("rooms 2; starts 1 0 1; ends 0; -", Twice, 20),
                ("rooms 2; starts 0; ends 0 1 0", Twice, 28), ("rooms 2; starts 0 2 2", NoRoom, 18),
                ("rooms 2; starts 1; ends 1 )", BadText, 26), ("rooms 2; starts 0 0 )", Twice, 18),
                ("rooms 2; starts 0 ) 0", BadText, 18)):
            self.refused(kind, what, read_machine, A, text)
        # A room may be a start and an end.
        self.assertEqual(read_machine(A, "rooms 2; starts 1 0; ends 1 0; -"), (1, 2, (0, 1), (0, 1), ()))

    def test_moves(self):
        head = "rooms 2; starts 0; ends 0; "
        for text, kind, what in (
                ("0 c 1", NoName, 29), ("0 c 9", NoName, 29), ("2 c 9", NoRoom, 27), ("0 a 1, 0 c 1", NoName, 36),
                ("0 a 1, 0 a 1", Twice, 34), ("0 a 1, 1 a 0,0 a 1", Twice, 40), ("0 a 1,   0 a 1, 9", Twice, 36),
                ("0 a 1, 0 a 2", NoRoom, 38), ("0 a 1, 0 a )", BadText, 38), ("0 a 1, 0 1", BadText, 36),
                ("0 o 1", BadText, 29), ("0 a 1 0 a 1", BadText, 33), ("a 0 1", BadText, 27), ("0 0 1", BadText, 29)):
            self.refused(kind, what, read_machine, AB, head + text)
        self.assertEqual(read_machine(AB, head + "1 b 1, 0 b 1, 0 a 1")[4], ((0, 0, 1), (0, 1, 1), (1, 1, 1)))

    def test_the_first_of_several(self):
        self.refused(TooMany, 6, read_machine, A, "rooms 50; starts 0 0; ends 99; 0 c 0 )")
        self.refused(Twice, 19, read_machine, A, "rooms 40; starts 0 0; ends 99; 0 c 0 )")
        self.refused(NoRoom, 25, read_machine, A, "rooms 40; starts 0; ends 99; 0 c 0 )")
        self.refused(NoName, 31, read_machine, A, "rooms 40; starts 0; ends 9; 0  c 0 )")
        self.refused(BadText, 34, read_machine, A, "rooms 40; starts 0; ends 9; 0 a 0 )")


class Arguments(Case):

    def test_print_machine(self):
        self.refused(Unlike, 0, print_machine, A, THIRD)
        self.refused(Unlike, 0, print_machine, AB, EVEN)
        self.refused(Unlike, 0, print_machine, ("a", "b", "c"), THIRD)
        for thing, kind, what in WRONG_NAMES:
            self.refused(kind, what, print_machine, thing, None)
        for thing, kind, what in WRONG_MACHINE:
            self.refused(kind, what, print_machine, ("a", "b", "c", "d"), thing)
        self.refused(BadNames, 0, print_machine, ("1",), THIRD)
        self.refused(BadMachine, 0, print_machine, AB, (1, 1, (1,), (), ()))

    def test_read_machine(self):
        for thing, kind, what in WRONG_NAMES:
            self.refused(kind, what, read_machine, thing, None)
        for thing, kind, what in WRONG_TEXT:
            self.refused(kind, what, read_machine, A, thing)
        self.assertEqual(read_machine(text=GOOD, names=A), EVEN)


if __name__ == "__main__":
    unittest.main()
