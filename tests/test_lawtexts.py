"""[25.1] to [25.4] Signs, words, names and laws."""

import itertools
import unittest

from tests.common import NO_NAMES, WRONG_NAMES, WRONG_TEXT, Case, Chances, let_words
from undertwo.errors import BadNames, BadText, NoName, TooDeep, TooMany
from undertwo.joining import behind, both, butnot, either, opposite, repeated
from undertwo.lawtexts import made_names, read_law
from undertwo.machines import is_machine
from undertwo.sure import sure_of

CHANCES = Chances(254)
A = ("a",)
AB = ("a", "b")


def every_word(letters, length):
    return {word for many in range(length + 1) for word in itertools.product(range(letters), repeat=many)}


def words_told(law, names, length):
    """All words up to this length of a law that is told as a tree: ("a",), ("any",), ("empty",), (sign, part, part)
    with the sign " ", "|", "&" or "-", (sign, part) with "*", "?" or "!"."""
    sign, *parts = law
    told = [words_told(part, names, length) for part in parts]
    if sign in names:
        return {(names.index(sign),)}
    if sign == "any":
        return {(letter,) for letter in range(len(names))}
    if sign == "empty":
        return {()}
    if sign == " ":
        return {one + two for one in told[0] for two in told[1] if len(one) + len(two) <= length}
    if sign == "|":
        return told[0] | told[1]
    if sign == "&":
        return told[0] & told[1]
    if sign == "-":
        return told[0] - told[1]
    if sign == "?":
        return told[0] | {()}
    if sign == "!":
        return every_word(len(names), length) - told[0]
    found = {()}
    while True:
        more = found | {one + two for one in found for two in told[0] if len(one) + len(two) <= length}
        if more == found:
            return found
        found = more


# How strongly what a tree's sign makes holds together: a law of several terms, a term of several units, a unit that
# begins with "!", a unit that a "*" can follow.
STRENGTH = {"|": 0, "&": 0, "-": 0, " ": 1, "!": 2}


def text_of(law, blanks, brackets):
    """The text of a tree, with brackets where they must be, or around each part; blanks where they must be, or more."""
    sign, *parts = law
    texts = [text_of(part, blanks, brackets) for part in parts]
    strengths = [STRENGTH.get(part[0], 3) for part in parts]
    needed = {"|": (0, 1), "&": (0, 1), "-": (0, 1), " ": (1, 2), "*": (3,), "?": (3,), "!": (2,)}.get(sign, ())
    for at, (strength, least) in enumerate(zip(strengths, needed)):
        if strength < least or brackets:
            texts[at] = "(" + blanks() + texts[at] + blanks() + ")"
    if sign in ("*", "?"):
        return texts[0] + blanks() + sign
    if sign == "!":
        return "!" + blanks() + texts[0]
    if sign == " ":
        between = blanks() or ("" if texts[0][-1] in ")*?" or texts[1][0] in "(!" else " ")
        return texts[0] + between + texts[1]
    if parts:
        return texts[0] + blanks() + sign + blanks() + texts[1]
    return sign


def some_law(names, size):
    """A tree with so many leaves."""
    if CHANCES.below(3) == 0 and size < 6:
        return (("*", "?", "!")[CHANCES.below(3)], some_law(names, size))
    if size == 1:
        plain = names + ("any", "empty")
        return (plain[CHANCES.below(len(plain))],)
    left = 1 + CHANCES.below(size - 1)
    sign = (" ", " ", "|", "&", "-")[CHANCES.below(5)]
    return (sign, some_law(names, left), some_law(names, size - left))


class Laws(Case):

    def test_some_laws(self):
        for _ in range(500):
            names = [A, AB, ("a", "b", "c")][CHANCES.below(3)]
            law = some_law(names, 1 + CHANCES.below(6))
            length = 6 if len(names) < 3 else 4
            wanted = words_told(law, names, length)
            texts = [text_of(law, lambda: "", False), text_of(law, lambda: " ", True),
                     "  " + text_of(law, lambda: " " * CHANCES.below(3), False) + " "]
            told = [read_law(names, text) for text in texts]
            self.assertEqual(set(let_words(told[0], length)), wanted, texts)
            self.assertEqual(told[1:], [told[0]] * 2, texts)
            self.is_true(is_machine(told[0]))
            self.tuples_only(told[0])
            self.assertEqual(told[0][0], len(names))
            self.assertEqual(sure_of(told[0]), told[0])

    def test_how_signs_bind(self):
        for one, two in (("!a*|a", "(!(a*))|a"), ("!a*", "!(a*)"), ("!a?*", "!((a?)*)"), ("!!a*", "!(!(a*))"),
                         ("a b*", "a (b*)"), ("a b|b", "(a b)|b"), ("a|b a", "a|(b a)"), ("a|b&b", "(a|b)&b"),
                         ("any-a|a", "(any-a)|a"), ("any|a-a", "(any|a)-a"), ("a&a-a", "(a&a)-a"),
                         ("!a b", "(!a) b"), ("!(a b)", "!((a b))"), ("!a|b", "(!a)|b"), ("a !b*", "a (!(b*))"),
                         ("a !b* a", "a (!(b*)) a"), ("!a !b", "(!a)(!b)"), ("a*?", "(a*)?"), ("(a)*", "a*"),
                         ("!empty*", "!(empty*)"), ("a-b-a", "(a-b)-a"), ("(a|b)(a|b)", "(a|b) (a|b)"),
                         ("a(b)a", "a b a"), ("a*b", "a* b"), ("!(a)b*", "(!a)(b*)"), ("a !!b?* b", "a (!(!((b?)*))) b")):
            self.assertEqual(read_law(AB, one), read_law(AB, two), one)

    def test_the_joinings_as_they_are_told(self):
        a = read_law(AB, "a")
        b = read_law(AB, "b")
        nothing = read_law(AB, "empty")
        self.assertEqual(a, sure_of((2, 2, (0,), (1,), ((0, 0, 1),))))
        self.assertEqual(nothing, sure_of((2, 1, (0,), (0,), ())))
        self.assertEqual(read_law(AB, "any"), either(a, b))
        for text, wanted in (("a b", behind(a, b)), ("a|b", either(a, b)), ("a&b", both(a, b)), ("any-b", a),
                             ("a*", repeated(a)), ("a?", either(a, nothing)), ("!a", opposite(a)),
                             ("a b|a-b", butnot(either(behind(a, b), a), b))):
            self.assertEqual(read_law(AB, text), wanted, text)
        # A letter that no word has, one that is no letter of the law, and as many letters as there are names.
        self.assertEqual(read_law(("a", "b", "c", "d"), "b")[0], 4)
        self.assertEqual(read_law(("off", "on"), "on off"), behind(b, a))
        self.assertEqual(read_law(("x1", "x2"), "x1"), a)

    def test_the_examples_of_the_interface(self):
        for text, kind, what in (("", BadText, 0), ("*", BadText, 0), ("a |", BadText, 3), ("a)", BadText, 1),
                                 ("a b", NoName, 2)):
            self.refused(kind, what, read_law, A, text)

    def test_functions_return_the_same_each_time(self):
        one = read_law(AB, "(a b)* - empty")
        read_law(A, "a")
        read_law(AB, "!a")
        self.assertEqual(read_law(names=AB, text="(a b)*-empty"), one)


class Words(Case):

    def test_runs_and_single_signs(self):
        names = ("a", "a1", "aa", "b2b")
        self.assertEqual(read_law(names, "a1"), read_law(names, " a1 "))
        self.assertEqual(read_law(names, "a a"), read_law(names, "a   a"))
        self.assertNotEqual(read_law(names, "aa"), read_law(names, "a a"))
        self.assertEqual(read_law(names, "(aa)b2b*a1|a"), read_law(names, " ( aa ) b2b * a1 | a "))
        # Words that can stand nowhere.
        for text, place in (("1", 0), ("1a", 0), ("a 1a", 2), ("a 007", 2), ("a+b", 1), ("a A", 2), ("a_", 1),
                            ("a.b", 1), ("a#", 1), ("a 1", 2), ("(1)", 1), ("a" * 13, 0), ("a " + "b" * 13, 2),
                            ("a~", 1), ("~", 0), ("a;", 1), ("a,a", 1), ("a 0", 2), ("a:a", 1), ("A", 0), ("aB", 1)):
            self.refused(BadText, place, read_law, names, text)

    def test_names_of_12_signs_and_13(self):
        self.assertEqual(read_law(("a" * 12,), "a" * 12), read_law(A, "a"))
        self.refused(BadText, 0, read_law, ("a" * 12,), "a" * 13)
        self.refused(NoName, 0, read_law, A, "a" * 12)
        self.refused(NoName, 0, read_law, A, "b23456789012")
        self.refused(BadText, 0, read_law, A, "b234567890123")

    def test_words_that_are_no_names(self):
        for word in ("o none dark k m rooms starts ends law show drop back again least price paint line").split():
            self.refused(BadText, 0, read_law, A, word)
            self.refused(BadText, 2, read_law, A, "a " + word)
            self.refused(BadNames, 0, read_law, (word,), "a")
            # With one more sign it is one.
            self.refused(NoName, 0, read_law, A, word + "1")
            self.assertEqual(made_names((word + "1",)), (word + "1",))
        # Words of the rows of a session that are names.
        for word in ("put", "cut", "size", "undo", "redo", "seen", "wipe"):
            self.assertEqual(read_law((word,), word), read_law(A, "a"))

    def test_20000_signs_and_20001(self):
        self.assertEqual(read_law(A, "a" + " " * 19999), read_law(A, "a"))
        self.assertEqual(read_law(A, " " * 19999 + "a"), read_law(A, "a"))
        self.assertEqual(read_law(AB, "(b a)" + "*" * 19995), read_law(AB, "(b a)*"))
        self.assertEqual(read_law(AB, "(b a)" + "?*" * 9997), read_law(AB, "(b a)*"))
        self.refused(BadText, 20000, read_law, A, "a" + " " * 20000)
        self.refused(BadText, 20000, read_law, A, ")" * 20001)
        self.refused(BadText, 0, read_law, A, ")" * 20000)
        self.refused(BadText, 20000, read_law, A, "a" * 30000)
        self.refused(BadText, 19999, read_law, A, ")" * 19999 + "\n\n")
        self.refused(BadText, 20000, read_law, A, " " * 20000)

    def test_signs(self):
        for code in list(range(32)) + list(range(127, 300)) + [0x2028, 0x1F600, 0xD800]:
            self.refused(BadText, 1, read_law, A, "a" + chr(code))
            # The signs are looked at before the words.
            self.refused(BadText, 3, read_law, A, ")) " + chr(code) + "a")
        # The least and the greatest sign that a text has are no wrong signs.
        self.refused(BadText, 0, read_law, A, ") ~")
        for code in range(32, 127):
            try:
                read_law(("b",), "b " + chr(code))
            except (BadText, NoName) as error:
                self.assertEqual(error.what, 3 if chr(code) in "|&-(!" else 2)
        for thing, kind, what in WRONG_TEXT:
            self.refused(kind, what, read_law, A, thing)


class Grammar(Case):

    def valid(self, words):
        """Whether the words are a law, by writing one name in the place of each part."""
        text = "".join(words)
        while True:
            shorter = text
            for part in ("a*", "a?", "!a", "aa", "a|a", "a&a", "a-a", "(a)"):
                shorter = shorter.replace(part, "a")
            if shorter == text:
                return text == "a"
            text = shorter

    def can_go_on(self, words):
        """Whether some words behind these make a law of them."""
        return any(self.valid(words + more + [")"] * many) for more in ([], ["a"]) for many in range(len(words) + 1))

    def test_the_first_word_that_cannot_stand(self):
        for many in range(6):
            for words in itertools.product("a()!*|", repeat=many):
                words = list(words)
                text = " ".join(words)
                wrong = [at for at in range(many) if not self.can_go_on(words[:at + 1])]
                if wrong:
                    self.refused(BadText, 2 * wrong[0], read_law, A, text)
                elif not self.valid(words):
                    self.refused(BadText, len(text), read_law, A, text)
                else:
                    self.is_true(is_machine(read_law(A, text)))

    def test_other_signs(self):
        for many in range(5):
            for words in itertools.product("a(?&-)", repeat=many):
                words = list(words)
                text = "".join(words) if "aa" not in "".join(words) else " ".join(words)
                step = 1 if text == "".join(words) else 2
                wrong = [at for at in range(many) if not self.can_go_on(words[:at + 1])]
                if wrong:
                    self.refused(BadText, step * wrong[0], read_law, A, text)
                elif not self.valid(words):
                    self.refused(BadText, len(text), read_law, A, text)
                else:
                    read_law(A, text)

    def test_the_end_behind_blanks(self):
        self.refused(BadText, 0, read_law, A, "")
        self.refused(BadText, 3, read_law, A, "   ")
        self.refused(BadText, 6, read_law, A, "(a |  ")
        self.refused(BadText, 6, read_law, A, "(a    ")
        self.refused(BadText, 4, read_law, A, "a ! ")

    def test_any_and_empty(self):
        for text, place in (("any any)", 7), ("empty|", 6), ("any |* empty", 5), ("any(empty", 9)):
            self.refused(BadText, place, read_law, A, text)
        self.assertEqual(read_law(A, "any(empty)"), read_law(A, "a"))


class Questions(Case):

    def test_names(self):
        self.refused(NoName, 4, read_law, AB, "a | c")
        self.refused(NoName, 0, read_law, AB, "c )")
        self.refused(NoName, 1, read_law, AB, "(c d")
        self.refused(NoName, 0, read_law, AB, "ab")
        self.refused(BadText, 2, read_law, AB, "a ) c")
        self.refused(BadText, 0, read_law, AB, ") c")
        self.refused(NoName, 2, read_law, AB, "!!c !")

    def test_24_names_and_25(self):
        self.assertEqual(read_law(AB, "a|" * 23 + "a"), read_law(AB, "a"))
        self.refused(TooMany, 48, read_law, AB, "a|" * 24 + "a")
        for word in ("any", "empty", "a"):
            self.refused(TooMany, 48, read_law, AB, "a|" * 24 + word)
            self.refused(TooMany, 24 * (len(word) + 1), read_law, AB, (word + "|") * 24 + word + " )")
        # The number is asked before the name, and a word that cannot stand before both.
        self.refused(TooMany, 48, read_law, AB, "a|" * 24 + "c")
        self.refused(NoName, 46, read_law, AB, "a|" * 23 + "c")
        self.refused(BadText, 48, read_law, AB, "a|" * 24 + "o")
        self.refused(BadText, 47, read_law, AB, "a|" * 23 + "a;a")
        self.refused(BadText, 48, read_law, AB, "a|" * 24)
        self.refused(TooMany, 72, read_law, AB, "(a)" * 24 + "b")
        self.refused(TooMany, 73, read_law, AB, "(a)" * 24 + "!b")

    def test_30_open_and_31(self):
        for signs in ("(" * 30, "!" * 30, "!(" * 15, "(!" * 15, "((!" * 10):
            many = signs.count("(")
            read_law(AB, signs + "a" + ")" * many)
            for sign in "(!":
                self.refused(TooDeep, 30, read_law, AB, signs + sign)
                self.refused(TooDeep, 31, read_law, AB, signs + " " + sign + " 1")
        self.refused(BadText, 30, read_law, AB, "(" * 30 + ")")
        self.refused(BadText, 30, read_law, AB, "!" * 30)

    def test_when_brackets_and_signs_close(self):
        # A bracket is open until its `)`.
        read_law(AB, "(" * 30 + "a" + ")" * 30 + "(" * 30 + "b" + ")" * 30)
        read_law(AB, "(" * 29 + "(a)(b)" + ")" * 29)
        self.refused(TooDeep, 31, read_law, AB, "(" * 29 + "(a" + "(b))" + ")" * 29)
        self.refused(TooDeep, 33, read_law, AB, "(" * 29 + "(a)" + "((b))" + ")" * 29)
        # A `!` until the last word that belongs to it: a name, a `)`, a `*` or a `?`.
        read_law(AB, "(" * 29 + "!a!b!a*!b?*(a)" + ")" * 29)
        read_law(AB, "!" * 30 + "a" + "!" * 30 + "b")
        read_law(AB, "!" * 30 + "a*|" + "!" * 30 + "b")
        self.refused(TooDeep, 62, read_law, AB, "!" * 30 + "a*" + "!" * 30 + "(b)")
        read_law(AB, "!(" * 15 + "a" + ")" * 15 + "(" * 30 + "b" + ")" * 30)
        self.refused(TooDeep, 30, read_law, AB, "!" * 29 + "((a)b)")
        read_law(AB, "!" * 28 + "((a)b)")
        self.refused(TooDeep, 32, read_law, AB, "!" * 29 + "(a" + " " + "(b))")
        # A bracket within a `!` keeps it open up to its end, and its `*` too.
        read_law(AB, "!" * 29 + "(a)*(b)")
        self.refused(TooDeep, 32, read_law, AB, "!" * 29 + "(a*(b))")

    def test_the_joinings_are_done_when_the_whole_has_been_read(self):
        great = "any* a any any any any any any"
        self.refused(TooMany, 64, read_law, AB, great)
        self.refused(BadText, len(great) + 1, read_law, AB, great + " )")
        self.refused(NoName, len(great) + 1, read_law, AB, great + " c")
        self.refused(TooMany, 200, read_law, AB, "any* a (any any any any any any any)")
        self.assertEqual(read_law(AB, "any* a any any any any")[1], 32)

    def test_the_order_of_the_joinings(self):
        # Parts that are refused by different numbers: the one is told that ends first in the text.
        wide, lots = "any* a any any any any any", "any* a (any any any any any any any)"
        rings = {many: "(" + "a " * many + ")*" for many in (5, 7, 11)}
        two = f"{rings[7]} | {rings[11]}"
        self.refused(TooMany, 64, read_law, AB, wide)
        self.refused(TooMany, 200, read_law, AB, lots)
        self.refused(TooMany, 77, read_law, A, two)
        self.refused(TooMany, 78, read_law, AB, two)
        for text, what in ((f"({wide})|({lots})", 64), (f"({lots})|({wide})", 200), (f"{wide}|{lots}", 64),
                           (f"(({wide}))&!(({lots}))", 64), (f"!(({lots}))*-({wide})?", 200),
                           (f"a | ({lots} {wide})", 200), (f"({lots})({wide})", 200), (f"a ({lots})|{wide}", 200)):
            self.refused(TooMany, what, read_law, AB, text)
        # Within brackets before those with them: either of the rings before what stands ahead is joined to them.
        self.refused(TooMany, 78, read_law, AB, f"any* a any any any any ({two})")
        self.refused(TooMany, 64, read_law, AB, f"any* a any any any any any ({lots})")
        # Units one behind another from the left, before the terms.
        self.refused(TooMany, 64, read_law, AB, f"{rings[7]} | {wide}")
        self.refused(TooMany, 77, read_law, A, f"{two} | a a a")
        # The signs bind alike, from the left.
        self.assertEqual(read_law(A, f"{rings[7]} & a | {rings[11]}"), read_law(A, rings[11]))
        self.refused(TooMany, 77, read_law, A, f"{rings[7]} | {rings[11]} & a")
        self.assertEqual(read_law(A, f"{rings[7]} | ({rings[11]} & a)"), read_law(A, rings[7]))

    def test_names_go_before_the_text(self):
        for thing, kind, what in WRONG_NAMES:
            self.refused(kind, what, read_law, thing, None)


class Names(Case):

    def test_made_names(self):
        for names in (("a",), AB, ("a", "a1", "aa", "b"), ("a" * 12, "z" * 12), ("p0", "put", "seen"), ("z9",),
                      ("a0", "a1", "aa"), ("k1", "m1", "oo")):
            self.assertEqual(made_names(names), names)
            self.tuples_only(made_names(names))
        for thing, kind, what in WRONG_NAMES:
            self.refused(kind, what, made_names, thing)

    def test_what_is_no_name(self):
        for name in NO_NAMES:
            self.refused(BadNames, 0, made_names, (name,))
            self.refused(BadNames, 2, made_names, ("a", "b", name, None))
        for first, last in (("a", "9"), ("`", "{"), ("a", "{"), ("/", ":")):
            self.refused(BadNames, 0, made_names, ("{" + first,))
            self.refused(BadNames, 0, made_names, ("a" + last + ":",))

    def test_names_are_compared_as_texts(self):
        for one, two in (("a", "a0"), ("a0", "a1"), ("a9", "aa"), ("aa", "b"), ("a10", "a9"), ("zz", "zzz")):
            self.assertEqual(made_names((one, two)), (one, two))
            self.refused(BadNames, 1, made_names, (two, one))
            self.refused(BadNames, 1, made_names, (two, two))


if __name__ == "__main__":
    unittest.main()
