"""[25.8] Texts of inspectors."""

import itertools
import unittest

from tests.common import EVEN, WRONG_INSPECTOR, WRONG_TEXT, Case, Chances, ring
from tests.test_machinetexts import shuffled
from undertwo.errors import BadK, BadText, Long, Short, Twice
from undertwo.inspectors import is_inspector
from undertwo.inspectortexts import print_inspector, read_inspector
from undertwo.madewords import inspector

CHANCES = Chances(258)
SIGNS = {0: ".", 1: "o", 2: "#", 3: "a", 4: "b", 5: "c", 6: "d"}


def some_inspector():
    k = 1 + CHANCES.below(6)
    words = {tuple(CHANCES.below(7) for _ in range(k + 1)) for _ in range(CHANCES.below(30))}
    return (k, 2 * k + CHANCES.below(100), tuple(sorted(words)))


def written(words):
    return ["".join(SIGNS[cell] for cell in word) for word in words] or ["-"]


class Inspectors(Case):

    def test_there_and_back(self):
        for _ in range(300):
            one = some_inspector()
            k, m, words = one
            text = print_inspector(one)
            self.assertEqual(text, f"k {k} m {m}: " + " ".join(written(words)))
            self.assertEqual(read_inspector(text), one)
            loose = f" k  {k} m {m} :" + "".join(" " * (1 + CHANCES.below(2)) + word
                                                 for word in shuffled(written(words))) + " "
            told = read_inspector(loose)
            self.assertEqual(told, one)
            self.tuples_only(told)
            self.is_true(is_inspector(told))

    def test_the_examples(self):
        one = (1, 2, ((0, 0), (0, 3), (2, 0)))
        self.assertEqual(print_inspector(one), "k 1 m 2: .. .a #.")
        self.assertEqual(read_inspector("k 1 m 2:#. .a .."), one)
        self.refused(BadK, 0, read_inspector, "k 0 m 2: -")
        self.refused(Short, 6, read_inspector, "k 2 m 3: -")
        self.refused(BadText, 9, read_inspector, "k 1 m 2: ..o")

    def test_made_inspectors(self):
        for machine, k in ((EVEN, 4), (EVEN, 60), (ring(3, (0,)), 15)):
            one = inspector(machine, k)
            text = print_inspector(one)
            self.assertEqual(read_inspector(text), one)
        self.assertEqual(print_inspector(inspector(EVEN, 4))[:30], "k 4 m 12: ..... ....# ....a ..")

    def test_all_words_of_two_cells(self):
        words = tuple(itertools.product(range(7), repeat=2))
        text = print_inspector((1, 2, words))
        self.assertEqual(text[9:], " ".join(one + two for one in ".o#abcd" for two in ".o#abcd"))
        self.assertEqual(read_inspector(text), (1, 2, words))

    def test_numbers(self):
        for k in (1, 2, 59, 60):
            for m in (2 * k, 2 * k + 1, 4999, 5000):
                self.assertEqual(read_inspector(f"k {k} m {m}: -"), (k, m, ()))
                self.assertEqual(print_inspector((k, m, ())), f"k {k} m {m}: -")
                self.assertEqual(read_inspector(f"k {k} m {m}:-"), (k, m, ()))
            for m in (2 * k - 1, 0, 5001, 10 ** 29):
                place = len(f"k {k} m ")
                self.refused(Short, place, read_inspector, f"k {k} m {m}: -")
                self.refused(Short, place + 1, read_inspector, f" k {k} m {m} )")
        for k in (0, 61, 100, 10 ** 29):
            self.refused(BadK, 0, read_inspector, f"k {k} m 200: -")
            self.refused(BadK, 0, read_inspector, f"   k   {k} n")
        for number in ("00", "01", "1" * 31, "a", "-", "1a", "1.", ".", "o", ":"):
            self.refused(BadText, 2, read_inspector, f"k {number} m 200: -")
            self.refused(BadText, 6, read_inspector, f"k 1 m {number}: -")

    def test_cells(self):
        for word in (".", "...", "ab.", "o", "e.", ".e", "..a", "A.", ".1", "1.", "k.", "##a", "12", "aa0"):
            self.refused(BadText, 9, read_inspector, f"k 1 m 2: {word} .. )")
        for word in ("ab", "oo", "##", "#.", "dd", "ao"):
            self.assertEqual(len(read_inspector(f"k 1 m 2: {word}")[2]), 1)
            self.refused(BadText, 12, read_inspector, f"k 1 m 2: {word} {word}a")
            self.refused(BadText, 12, read_inspector, f"k 1 m 2: {word} -")
            self.refused(BadText, 12, read_inspector, f"k 1 m 2: {word} : ..")
            self.refused(BadText, 11, read_inspector, f"k 1 m 2: - {word}")
        # A run of `.` and `#` goes on through letters and figures.
        self.refused(BadText, 9, read_inspector, "k 1 m 2: ..ab")
        self.refused(BadText, 6, read_inspector, "k 1 m 2.: ..")
        self.refused(BadText, 0, read_inspector, "k. 1 m 2: ..")
        self.refused(BadText, 0, read_inspector, "#k 1 m 2: ..")
        self.assertEqual(read_inspector("k 60 m 120: " + "." * 61)[2], ((0,) * 61,))
        self.refused(BadText, 12, read_inspector, "k 60 m 120: " + "." * 60)
        self.refused(BadText, 12, read_inspector, "k 60 m 120: " + "." * 62)

    def test_a_word_twice(self):
        self.refused(Twice, 15, read_inspector, "k 1 m 2: .. o. ..")
        self.refused(Twice, 12, read_inspector, "k 1 m 2: .. .. )")
        self.refused(BadText, 12, read_inspector, "k 1 m 2: .. ) ..")
        self.refused(Twice, 19, read_inspector, "k 2 m 40: #aa .oo  #aa ...")

    def test_what_can_stand(self):
        for text, place in (("", 0), ("  ", 2), ("k", 1), ("k ", 2), ("k 1", 3), ("k 1 m", 5), ("k 1 m 2", 7),
                            ("k 1 m 2:", 8), ("k 1 m 2: ", 9), ("m 1", 0), ("k m", 2), ("k 1 k", 4), ("k 1 2", 4),
                            ("k 1 m 2 ..", 8), ("k 1 m 2;", 7), ("k1 m 2:", 0), ("k 1 m2:", 4), ("k 1 m 2 2:", 8),
                            ("k 1 m 2: - -", 11), ("k 1 m 2: -:", 10), ("k 1 m 2:: ..", 8), ("k 1 : ..", 4),
                            ("K 1 m 2:", 0), ("k 1 m 2: ..;", 11), ("k 1 m 2: .., #.", 11), ("law", 0), ("k,", 1)):
            self.refused(BadText, place, read_inspector, text)

    def test_20000_signs_and_20001(self):
        self.assertEqual(read_inspector("k 1 m 2: -" + " " * 19990), (1, 2, ()))
        self.refused(BadText, 20000, read_inspector, "k 1 m 2: -" + " " * 19991)

    def test_a_text_that_would_be_too_long(self):
        # Ten signs for each word of nine cells with the blank ahead of it, and those of "k 8 m 100:".
        words = tuple(itertools.islice(itertools.product(range(7), repeat=9), 1999))
        one = (8, 100, words)
        text = print_inspector(one)
        self.assertEqual(len(text), 20000)
        self.assertEqual(read_inspector(text), one)
        self.refused(Long, 0, print_inspector, (8, 1000, words))
        self.assertEqual(len(print_inspector((8, 99, words))), 19999)
        self.assertEqual(len(print_inspector((8, 5000, words[1:]))), 19991)
        self.refused(Long, 0, print_inspector, (60, 120, tuple((0,) * 48 + word for word in
                                                               itertools.product((0, 1), repeat=13))[:6000]))

    def test_wrong_arguments(self):
        for thing, kind, what in WRONG_TEXT:
            self.refused(kind, what, read_inspector, thing)
        for thing, kind, what in WRONG_INSPECTOR:
            self.refused(kind, what, print_inspector, thing)
        self.assertEqual(print_inspector(inspector=read_inspector(text="k 1 m 2: -")), "k 1 m 2: -")


if __name__ == "__main__":
    unittest.main()
