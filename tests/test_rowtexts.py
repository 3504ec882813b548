"""[25.7] Texts of rows."""

import itertools
import unittest

from tests.common import WRONG_ROWS, WRONG_TEXT, Case, Chances
from undertwo.errors import BadGap, BadText, TooMany
from undertwo.maker import thin_rows
from undertwo.rows import made_rows
from undertwo.rowtexts import print_rows, read_rows

CHANCES = Chances(257)


class Rows(Case):

    def test_there_and_back(self):
        for _ in range(300):
            rows = tuple(CHANCES.row(CHANCES.below(25), 99) if CHANCES.below(4) else ()
                         for _ in range(CHANCES.below(9)))
            text = print_rows(rows)
            wanted = " | ".join(" ".join(map(str, row)) if row else "dark" for row in rows)
            self.assertEqual(text, wanted or "none")
            self.assertEqual(read_rows(text), rows)
            self.tuples_only(read_rows(text))
            self.assertEqual(read_rows("  " + text.replace(" ", "   ") + " "), rows)
            self.assertEqual(read_rows(text.replace(" | ", "|")), rows)

    def test_the_examples(self):
        self.assertEqual((print_rows(((6, 2), (), (4,))), print_rows(())), ("6 2 | dark | 4", "none"))
        self.assertEqual(read_rows("dark|6 2"), ((), (6, 2)))
        self.refused(BadGap, 2, read_rows, "6 0")
        self.refused(BadText, 5, read_rows, "6 2 |")

    def test_made_rows(self):
        rows = thin_rows(9, (1, 3, 2))
        self.assertEqual(read_rows(print_rows(rows)), rows)
        self.assertEqual(made_rows(read_rows("9 1 | 6 | 8 3")), rows)

    def test_none_is_no_row(self):
        self.assertEqual(read_rows(" none "), ())
        self.assertEqual(read_rows("dark"), ((),))
        for text, what in (("none none", 5), ("none | 4", 5), ("none 4", 5), ("4 none", 2), ("4 | none", 4),
                           ("dark none", 5), ("none dark", 5), ("none)", 4)):
            self.refused(BadText, what, read_rows, text)

    def test_gaps(self):
        for gap in (1, 2, 98, 99):
            self.assertEqual(read_rows(f"{gap}"), ((gap,),))
        for gap in ("0", "100", "999", "9" * 30):
            self.refused(BadGap, 0, read_rows, gap)
            self.refused(BadGap, 4, read_rows, f"3 1 {gap} )")
            self.refused(BadGap, 8, read_rows, f"3 | 1 3 {gap} | )")
            self.refused(BadGap, 7, read_rows, f"dark | {gap}")
        for word in ("00", "01", "099", "9" * 31, "-1", "+1", "1a", "a", "o", "-"):
            self.refused(BadText, 2, read_rows, f"3 {word}")
            self.refused(BadText, 4, read_rows, f"3 | {word}")
            self.refused(BadText, 0, read_rows, f"{word} | 0")

    def test_24_gaps_and_25(self):
        self.assertEqual(read_rows("1 " * 24), ((1,) * 24,))
        self.refused(TooMany, 48, read_rows, "1 " * 25)
        self.refused(TooMany, 48, read_rows, "1 " * 24 + "0")
        self.refused(TooMany, 48, read_rows, "1 " * 24 + "100 )")
        self.refused(BadGap, 46, read_rows, "1 " * 23 + "0 1")
        self.refused(BadText, 48, read_rows, "1 " * 24 + "01")
        self.assertEqual(read_rows("1 " * 24 + "|" + "2 " * 24), ((1,) * 24, (2,) * 24))
        self.refused(TooMany, 97, read_rows, "1 " * 24 + "|" + "2 " * 25)

    def test_8_rows_and_9(self):
        self.assertEqual(read_rows("|".join(["1"] * 8)), ((1,),) * 8)
        self.assertEqual(read_rows("|".join(["dark"] * 8)), ((),) * 8)
        for word in ("1", "dark", "0", "100", "9" * 30):
            self.refused(TooMany, 16, read_rows, "1|" * 8 + word)
            self.refused(TooMany, 41, read_rows, "dark|" * 8 + " " + word + " )")
        for word in ("none", "", "|", "01", "a"):
            self.refused(BadText, 16, read_rows, "1|" * 8 + word)
        self.refused(BadText, 16, read_rows, "|".join(["1"] * 8) + " dark")

    def test_what_can_stand(self):
        """All short texts of a few words, against a plain cutting at the bars."""
        for many in range(5):
            for words in itertools.product(("3", "dark", "|", "none"), repeat=many):
                text = " ".join(words)
                starts = [sum(len(word) + 1 for word in words[:at]) for at in range(many)] + [len(text)]
                wrong = self.wrong_at(words)
                if wrong is None:
                    rows = [] if words == ("none",) else " ".join(words).split("|")
                    self.assertEqual(read_rows(text), tuple(tuple(3 for word in row.split() if word == "3")
                                                            for row in rows))
                else:
                    self.refused(BadText, starts[wrong], read_rows, text)

    def wrong_at(self, words):
        """The first word that cannot stand, told by the word before it."""
        before = ""
        for at, word in enumerate(words + ("",)):
            let = {"": ("3", "dark", "none"), "3": ("3", "|", ""), "dark": ("|", ""), "|": ("3", "dark"),
                   "none": ("",)}[before]
            if word not in let:
                return at
            before = word
        return None

    def test_20000_signs_and_20001(self):
        self.assertEqual(read_rows("3" + " " * 19999), ((3,),))
        self.refused(BadText, 20000, read_rows, "3" + " " * 20000)

    def test_wrong_arguments(self):
        for thing, kind, what in WRONG_TEXT:
            self.refused(kind, what, read_rows, thing)
        for thing, kind, what in WRONG_ROWS:
            self.refused(kind, what, print_rows, thing)
        self.assertEqual(print_rows(rows=read_rows(text="3 1")), "3 1")


if __name__ == "__main__":
    unittest.main()
