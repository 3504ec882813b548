"""[25.6] Texts of lines."""

import itertools
import unittest

from tests.common import EVEN, WRONG_LINE_OF_4, WRONG_NAMES, WRONG_TEXT, Case, Chances
from undertwo.errors import BadLine, BadNames, BadText, NoName, TooMany, Unlike
from undertwo.linetexts import print_line, read_line
from undertwo.painter import paint

CHANCES = Chances(256)
A = ("a",)
AB = ("a", "b")


def some_line(letters):
    cells = [0, 0, 0, 1] + list(range(3, 3 + letters))
    return tuple(cells[CHANCES.below(len(cells))] for _ in range(CHANCES.below(30)))


def words_of(names, line, together):
    """The words of a line's text, empty cells side by side as one number, or cut into several."""
    words = []
    for cell, run in itertools.groupby(line):
        run = list(run)
        if cell == 0:
            left = len(run)
            while left:
                part = left if together else 1 + CHANCES.below(left)
                words.append(str(part))
                left -= part
        else:
            words += ["o" if cell == 1 else names[cell - 3]] * len(run)
    return words or ["-"]


class Lines(Case):

    def test_there_and_back(self):
        for _ in range(300):
            letters = 1 + CHANCES.below(4)
            names = ("a", "b1", "off", "z" * 12)[:letters]
            line = some_line(letters)
            text = print_line(names, line)
            self.assertEqual(text, " ".join(words_of(names, line, True)))
            self.assertEqual(read_line(names, text), line)
            loose = "".join(" " * (1 + CHANCES.below(3)) + word for word in words_of(names, line, False)) + "  "
            self.assertEqual(read_line(names, loose), line)
            self.tuples_only(read_line(names, loose))

    def test_the_examples(self):
        self.assertEqual(print_line(A, (0, 0, 1, 0, 3, 0)), "2 o 1 a 1")
        self.assertEqual((print_line(A, ()), read_line(A, "-")), ("-", ()))
        self.assertEqual(read_line(AB, "1 1 o b 3"), (0, 0, 1, 4, 0, 0, 0))
        self.refused(BadText, 2, read_line, A, "2 0")
        self.refused(NoName, 2, read_line, A, "2 b")

    def test_painted_lines(self):
        line = paint(EVEN, 4, (0, 0), (12, 13, 14))
        text = print_line(A, line)
        self.assertEqual(text, "12 a o o 1 o 3 o 3 o o a 14")
        self.assertEqual(read_line(A, text), line)

    def test_6000_cells_and_6001(self):
        self.assertEqual(read_line(A, "6000"), (0,) * 6000)
        self.assertEqual(read_line(A, "5999 a"), (0,) * 5999 + (3,))
        self.assertEqual(read_line(A, "o " * 5999 + "1"), (1,) * 5999 + (0,))
        for text, what in (("6001", 0), ("6000 1", 5), ("6000 o", 5), ("6000 a", 5), (" 1 6000", 3), ("o 6000", 2),
                           ("9" * 30, 0), ("a 3000  3000 0", 8), ("o " * 6000 + "a", 12000),
                           ("6000   " + "9" * 30, 7)):
            self.refused(TooMany, what, read_line, A, text)
        # The name is asked before the number of cells, and the word before both.
        self.refused(NoName, 5, read_line, A, "6000 b")
        self.refused(BadText, 5, read_line, A, "6000 0")
        self.refused(BadText, 5, read_line, A, "6000 " + "9" * 31)
        self.refused(TooMany, 5, read_line, A, "6000 1 b )")
        self.refused(BadText, 5, read_line, A, "6000 any")

    def test_what_can_stand(self):
        good = ("1", "o", "a", "12", "b")
        others = ("0", "00", "01", "-", "any", "empty", "k", "line", "+", "1a", "(", ";", "|", "#", ".", "A", "a" * 13,
                  "9" * 31)
        for many in range(4):
            for words in itertools.product(good[:4], repeat=many):
                ahead = " ".join(words)
                if many:
                    self.assertEqual(len(read_line(A, ahead)), sum(int(word) if word.isdigit() else 1
                                                                   for word in words))
                else:
                    self.refused(BadText, 0, read_line, A, "")
                    self.refused(BadText, 4, read_line, A, "    ")
                for other in others:
                    if other == "-" and not many:
                        continue
                    text = (ahead + " " + other).strip()
                    self.refused(BadText, len(text) - len(other), read_line, A, text + " 1 b )")
        for text in ("- 1", "- -", "- o", "- a", "- b", "- )"):
            self.refused(BadText, 2, read_line, A, text)
        self.assertEqual(read_line(A, "  -  "), ())
        self.refused(NoName, 0, read_line, A, "oo 0")
        self.refused(BadText, 1, read_line, A, "oO 0")
        self.refused(BadText, 3, read_line, A, "o  0")
        self.assertEqual(read_line(("a0", "oo"), "oo a0 o"), (4, 3, 1))

    def test_words_of_sessions_are_names(self):
        for word in ("put", "cut", "size", "undo", "redo", "seen", "wipe", "o1"):
            self.assertEqual(read_line((word,), f"1 {word} 1"), (0, 3, 0))
            self.assertEqual(print_line((word,), (0, 3, 0)), f"1 {word} 1")

    def test_20000_signs_and_20001(self):
        self.assertEqual(read_line(A, "a" + " " * 19999), (3,))
        self.refused(BadText, 20000, read_line, A, "a" + " " * 20000)
        # A line of 6,000 cells may be printed with more signs than a reader takes.
        names = ("z" * 12,)
        text = print_line(names, (3,) * 6000)
        self.assertEqual(len(text), 13 * 6000 - 1)
        self.refused(BadText, 20000, read_line, names, text)
        text = print_line(A, (1, 0) * 3000)
        self.assertEqual(len(text), 11999)
        self.assertEqual(read_line(A, text), (1, 0) * 3000)

    def test_unlike(self):
        for letters in range(1, 5):
            names = ("a", "b", "c", "d")[:letters]
            for cell in range(3, 7):
                if cell < 3 + letters:
                    self.assertEqual(print_line(names, (0, cell)), "1 " + names[cell - 3])
                else:
                    self.refused(Unlike, 0, print_line, names, (0, cell))
        self.refused(Unlike, 0, print_line, A, (4, 3, 0))
        self.refused(BadLine, 1, print_line, A, (4, 7))

    def test_wrong_arguments(self):
        for thing, kind, what in WRONG_NAMES:
            self.refused(kind, what, print_line, thing, None)
            self.refused(kind, what, read_line, thing, None)
        for thing, kind, what in WRONG_TEXT:
            self.refused(kind, what, read_line, AB, thing)
        for thing, kind, what in WRONG_LINE_OF_4:
            self.refused(kind, what, print_line, ("a", "b", "c", "d"), thing)
        self.refused(BadNames, -1, print_line, ["a"], (9,))
        self.assertEqual(read_line(text="1 a", names=A), (0, 3))
        self.assertEqual(print_line(line=(0, 3), names=A), "1 a")


if __name__ == "__main__":
    unittest.main()
