"""[26.3] to [26.5] The session."""

import inspect
import unittest

from tests.common import NO_TEXTS, WRONG_TEXT, Case, Chances
from tests.test_lawtexts import some_law, text_of
from undertwo.errors import NoLaw, NoName, NoTrack, Refused
from undertwo.inspectors import first_no
from undertwo.lawtexts import print_machine, read_law
from undertwo.leastrooms import least_machine, least_rooms
from undertwo.linetexts import print_line, read_line
from undertwo.lines import dots_in, sizes, stations
from undertwo.machines import first_run, trimmed
from undertwo.madewords import inspector
from undertwo.painter import paint
from undertwo.prices import law_price, long_price, sure_from
from undertwo.session import Session
from undertwo.store import Store
from undertwo.sure import classes
from undertwo.track import Track

CHANCES = Chances(263)
EVEN_LAW = "law even (a b) b* (a b* a b*)*"


class Model:
    """A store and a track, used by hand; each reply is put together by the test."""

    def __init__(self):
        self.store = Store()
        self.track = None

    def reply(self, kind, *given):
        try:
            return getattr(self, "do_" + kind)(*given)
        except Refused as error:
            return f"refused: {type(error).__name__} {error.what}"

    def told(self, names):
        return " ".join(names) if names else "-"

    def do_law(self, name, names, ahead, text):
        # Places are those of the whole row.
        machine = read_law(names, " " * ahead + text)
        self.store.put(name, names, machine)
        return f"rooms {machine[1]}"

    def do_show(self, name):
        return print_machine(*self.store.pair(name))

    def do_drop(self, name):
        self.store.drop(name)
        return self.told(self.store.names())

    def do_back(self):
        return self.told(self.store.back())

    def do_again(self):
        return self.told(self.store.again())

    def do_least(self, name):
        machine = self.store.pair(name)[1]
        rooms = least_rooms(machine)
        price = "{} {}".format(*long_price(rooms))
        return f"rooms {rooms} sure {classes(machine)} price {price} at {sure_from(rooms)}"

    def do_price(self, name, k):
        return "{} {}".format(*law_price(self.store.pair(name)[1], k))

    def do_paint(self, name, k, ahead, text):
        names, machine = self.store.pair(name)
        line = read_line(names, " " * ahead + text)
        small = trimmed(least_machine(machine))
        track = Track(small, k, stations(line), sizes(line))
        self.track = (track, names, small, k)
        return f"dots {sum(dots_in(track.line()))}"

    def there(self):
        if self.track is None:
            raise NoTrack(0)
        return self.track

    def do_line(self):
        track, names, _, _ = self.there()
        return print_line(names, track.line())

    def do_put(self, at, name, left):
        track, names, _, _ = self.there()
        if name not in names:
            raise NoName(0)
        return f"repainted {track.put(at, names.index(name), left)}"

    def do_cut(self, at):
        return f"repainted {self.there()[0].drop(at)}"

    def do_size(self, at, size):
        return f"repainted {self.there()[0].resize(at, size)}"

    def do_undo(self):
        track, names, _, _ = self.there()
        return self.told([names[letter] for letter in track.back()])

    def do_redo(self):
        track, names, _, _ = self.there()
        return self.told([names[letter] for letter in track.again()])

    def do_seen(self, place):
        return f"room {self.there()[0].seen(place)}"

    def do_wipe(self, place):
        track, _, machine, k = self.there()
        no = first_no(inspector(machine, k), track.wiped(place))
        return "passes" if no is None else f"no {no}"


LAWS = ("b* (a b* a b*)*", "a a*", "(a | b)*", "(a b)*", "any* a", "a", "empty", "a - a", "(a a a)*", "!a",
        "any* a any any any any any any", "any? any?", "any* a any any")


class Rows(Case):

    def run_rows(self, session, rows, wanted):
        self.assertEqual([session.row(row) for row in rows], wanted)

    def some_row(self, model):
        """A row as a text, and what the model is asked for it."""
        name = ("x", "y", "put", "n1")[CHANCES.below(4)]
        chance = CHANCES.below(40)
        if chance < 6:
            names = (("a", "b"), ("a",), ("a", "b", "c"), ("b", "c"))[CHANCES.below(8) // 2 if CHANCES.below(2) else 0]
            text = LAWS[CHANCES.below(len(LAWS))]
            if CHANCES.below(3) == 0:
                text = text_of(some_law(names, 1 + CHANCES.below(4)), lambda: "", False)
            head = f"law {name} ({' '.join(names)}) "
            return head + text, ("law", name, names, len(head), text)
        if chance < 8:
            return f"show {name}", ("show", name)
        if chance < 10:
            return f"drop {name}", ("drop", name)
        if chance < 12:
            word = ("back", "again")[CHANCES.below(2)]
            return word, (word,)
        if chance < 13:
            return f"least {name}", ("least", name)
        if chance < 14:
            k = (1, 4, 20, 60, 61, 0)[CHANCES.below(6)]
            return f"price {name} {k}", ("price", name, k)
        if chance < 19:
            k = (4, 4, 5, 15, 1, 61)[CHANCES.below(6)]
            least = {4: 12, 5: 15, 15: 110}.get(k, 3)
            text = " ".join([str(least + CHANCES.below(9))] + [
                word for _ in range(CHANCES.below(4)) for word in ("ab"[CHANCES.below(8) == 0],
                                                                   str(least + CHANCES.below(40)))])
            head = f"paint {name} {k} : "
            return head + text, ("paint", name, k, len(head), text)
        return self.some_row_of_track(model, chance)

    def some_row_of_track(self, model, chance):
        lengths = model.track[0].lengths() if model.track else (30, 30)
        cells = len(model.track[0].line()) if model.track else 30
        at = CHANCES.below(len(lengths) + (CHANCES.below(6) == 0))
        if chance < 21:
            return "line", ("line",)
        if chance < 26:
            name, left = "abc"[CHANCES.below(10) // 4], CHANCES.below(60)
            if at < len(lengths) and lengths[at] > 24 and CHANCES.below(3):
                left = 12 + CHANCES.below(lengths[at] - 24)
            return f"put {at} {name} {left}", ("put", at, name, left)
        if chance < 28:
            return f"cut {at}", ("cut", at)
        if chance < 31:
            size = CHANCES.below(110)
            return f"size {at} {size}", ("size", at, size)
        if chance < 34:
            word = ("undo", "redo")[CHANCES.below(2)]
            return word, (word,)
        place = CHANCES.below(cells + 2)
        word = ("seen", "wipe")[CHANCES.below(2)]
        dots = [at for at, cell in enumerate(model.track[0].line()) if cell == 1] if model.track else []
        if word == "wipe" and dots and CHANCES.below(3):
            place = dots[CHANCES.below(len(dots))]
        return f"{word} {place}", (word, place)

    def test_beside_a_model(self):
        kinds = {}
        for _ in range(40):
            session, model = Session(), Model()
            for _ in range(150):
                row, asked = self.some_row(model)
                told, wanted = session.row(row), model.reply(*asked)
                self.assertEqual(told, wanted, row)
                self.assertIs(type(told), str)
                kind = told.split(" ")[1] if told.startswith("refused") else "done"
                kinds[(asked[0], kind)] = kinds.get((asked[0], kind), 0) + 1
            self.assertEqual(session.row("line"), model.reply("line"))
            for name in model.store.names():
                self.assertEqual(session.row(f"show {name}"), model.reply("show", name))
        for kind in ("law", "show", "drop", "back", "again", "least", "price", "paint", "line", "put", "cut", "size",
                     "undo", "redo", "seen", "wipe"):
            self.assertGreaterEqual(kinds.get((kind, "done"), 0), 5, kind)
        self.assertLessEqual({("law", "TooMany"), ("show", "NoLaw"), ("drop", "NoLaw"), ("back", "NothingBack"),
                              ("again", "NothingAgain"), ("least", "NoLaw"), ("price", "BadK"), ("paint", "NotLet"),
                              ("paint", "BadK"), ("paint", "TooThin"), ("paint", "NoName"), ("line", "NoTrack"),
                              ("put", "NoName"), ("put", "BadAt"), ("put", "BadSize"), ("put", "NotLet"),
                              ("cut", "BadAt"), ("size", "Short"), ("undo", "NothingBack"), ("redo", "NothingAgain"),
                              ("seen", "BadPlace"), ("wipe", "BadPlace")}, set(kinds))

    def test_blanks(self):
        session = Session()
        self.run_rows(session, ["  law   even(a b)b*(a b*a b*)*", "show even ", " least  even", "price even 4  ",
                                "paint even 4:12 a 12 a 12", "line", "size 1   40", " cut 0"],
                      ["rooms 2", "rooms 2; starts 0; ends 0; 0 a 1, 0 b 0, 1 a 0, 1 b 1",
                       "rooms 2 sure 2 price 1 1 at 4", "1 4", "dots 6", "12 a o o o 3 o 3 o o a 12", "repainted 1",
                       "refused: NotLet 0"])

    def test_replies(self):
        session = Session()
        self.run_rows(session, ["law never (a) a - a", "show never", "least never", "price never 60",
                                "paint never 1 : -", "law one (a) empty", "least one", "paint one 1 : -",
                                "paint one 1 : 3", "line", "undo", "size 0 4", "undo", "redo", "line", "seen 0",
                                "seen 4", "wipe 0"],
                      ["rooms 1", "rooms 1; starts 0; ends -; 0 a 0", "rooms 0 sure 0 price 0 1 at 1", "0 1",
                       "refused: NotLet 0", "rooms 2", "rooms 1 sure 1 price 0 1 at 1", "refused: Short 0", "dots 0",
                       "3", "refused: NothingBack 0", "repainted 1", "-", "-", "4", "room 0", "refused: BadPlace 4",
                       "refused: BadPlace 0"])
        self.run_rows(session, ["drop never", "drop one", "drop one", "back", "back", "again", "again", "again"],
                      ["one", "-", "refused: NoLaw one", "one", "never one", "one", "-", "refused: NothingAgain 0"])

    def test_pieces_of_a_line_without_numbers(self):
        session = Session()
        self.run_rows(session, ["law all (a b) any*", "paint all 1 : 3 a 1 1 1 b 4", "line", "paint all 1 : a",
                                "paint all 1 : 3 a", "paint all 1 : 2 1 b 1 1 1", "line"],
                      ["rooms 1", "dots 0", "3 a 3 b 4", "refused: Short 0", "refused: Short 1", "dots 0", "3 b 3"])

    def test_the_machine_of_the_track_is_the_least_one(self):
        session = Session()
        # Eight rooms in the sure machine, four in the least one.
        third = least_machine(read_law(("a", "b"), "any* a any any"))
        self.assertEqual(trimmed(third), third)
        self.assertEqual(first_run(third, (0, 1, 1)), (3, 0, 1, 2))
        line = paint(third, 30, (0, 1, 1), (380, 380, 400, 380))
        self.run_rows(session, ["law third (a b) any* a any any", "least third", "price third 30",
                                "paint third 30 : 380 a 380 b 400 b 380", "seen 0", "seen 400", "seen 800", "seen 1300",
                                "cut 0"],
                      ["rooms 8", "rooms 4 sure 8 price 5 3 at 30", "1 18", f"dots {sum(dots_in(line))}", "room 3", "room 0",
                       "room 1", "room 2", "refused: NotLet 0"])

    def test_what_happens_to_the_store_does_not_change_the_track(self):
        session = Session()
        line = "12 a o o o 3 o 3 o o a 12"
        self.run_rows(session, [EVEN_LAW, "paint even 4 : 12 a 12 a 12", "law even (c) c*", "line", "put 1 b 20",
                                "size 1 40", "put 1 b 20", "put 1 c 5", "drop even", "seen 14", "wipe 13", "undo",
                                "undo", "line", "back", "back", "show even", "back", "line", "redo"],
                      ["rooms 2", "dots 6", "rooms 1", line, "refused: BadSize 0", "repainted 1", "repainted 3",
                       "refused: NoName 0", "-", "room 1", "no 13", "a a", "a a", line, "even", "even",
                       "rooms 2; starts 0; ends 0; 0 a 1, 0 b 0, 1 a 0, 1 b 1", "-", line, "a a"])

    def test_two_sessions_side_by_side(self):
        one, two = Session(), Session()
        one.row(EVEN_LAW)
        self.assertEqual(two.row("show even"), "refused: NoLaw even")
        two.row("law odd (a) a (a a)*")
        one.row("paint even 4 : 12 a 12 a 12")
        self.assertEqual(two.row("line"), "refused: NoTrack 0")
        two.row("paint odd 4 : 12 a 12")
        two.row("size 0 30")
        self.assertEqual((one.row("undo"), two.row("undo")), ("refused: NothingBack 0", "a"))
        self.assertEqual((one.row("back"), two.row("drop odd")), ("-", "-"))
        self.assertEqual((one.row("again"), two.row("again")), ("even", "refused: NothingAgain 0"))

    def test_the_methods(self):
        self.assertEqual(Session.__module__, "undertwo.session")
        self.assertEqual(tuple(inspect.signature(Session).parameters), ())
        self.assertIn("row", vars(Session))
        self.assertEqual(tuple(inspect.signature(Session.row).parameters), ("self", "text"))
        self.assertEqual(Session().row(text="back"), "refused: NothingBack 0")


class FirstQuestions(Case):
    """1. of [26.4]: the words of the row."""

    def check(self, rows, session=None):
        session = session or Session()
        for row, wanted in rows:
            self.assertEqual(session.row(row), "refused: " + wanted, row)

    def test_what_is_no_text(self):
        for thing in NO_TEXTS:
            self.assertEqual(Session().row(thing), "refused: BadText -1")
        for thing, _, what in WRONG_TEXT:
            self.assertEqual(Session().row(thing), f"refused: BadText {what}")

    def test_the_first_word(self):
        self.check([("", "BadText 0"), ("   ", "BadText 3"), ("  lines", "BadText 2"), ("Line", "BadText 0"),
                    ("1", "BadText 0"), ("rooms 1", "BadText 0"), ("x", "BadText 0"), ("none", "BadText 0"),
                    ("(line", "BadText 0"), ("resize 0 1", "BadText 0"), ("paints", "BadText 0"),
                    ("NAME", "BadText 0"), ("any", "BadText 0"), ("-", "BadText 0")])

    def test_behind_the_last_word(self):
        self.check([("line x", "BadText 5"), ("back back", "BadText 5"), ("again 1", "BadText 6"),
                    ("undo -", "BadText 5"), ("redo undo", "BadText 5"), ("show x y", "BadText 7"),
                    ("drop x )", "BadText 7"), ("least x 1", "BadText 8"), ("price x 4 4", "BadText 10"),
                    ("put 0 a 1 1", "BadText 10"), ("cut 0 0", "BadText 6"), ("size 0 1 2", "BadText 9"),
                    ("seen 0 1", "BadText 7"), ("wipe 0 1", "BadText 7"), ("paint x 4 : - -", "BadText 14"),
                    ("law x (a) a )", "BadText 12")])

    def test_each_part(self):
        self.check([("show", "BadText 4"), ("show ", "BadText 5"), ("show 1", "BadText 5"), ("show law", "BadText 5"),
                    ("drop -", "BadText 5"), ("least any", "BadText 6"), ("price", "BadText 5"),
                    ("price x", "BadText 7"), ("price x y", "BadText 8"), ("price 4 x", "BadText 6"),
                    ("price x 04", "BadText 8"), ("price x " + "9" * 31, "BadText 8"), ("paint x", "BadText 7"),
                    ("paint x :", "BadText 8"), ("paint x 4", "BadText 9"), ("paint x 4 12", "BadText 10"),
                    ("paint x 4 :", "BadText 11"), ("paint 4 x : 12", "BadText 6"), ("put", "BadText 3"),
                    ("put a 1 1", "BadText 4"), ("put 1 1 1", "BadText 6"), ("put 1 a", "BadText 7"),
                    ("put 1 a a", "BadText 8"), ("put 1 any 1", "BadText 6"), ("cut", "BadText 3"),
                    ("cut a", "BadText 4"), ("cut -1", "BadText 4"), ("size 1", "BadText 6"),
                    ("size 1 x", "BadText 7"), ("seen", "BadText 4"), ("seen x", "BadText 5"), ("wipe o", "BadText 5"),
                    ("seen " + "1" * 31, "BadText 5"), ("seen " + "1" * 30, "NoTrack 0")])

    def test_laws(self):
        self.check([("law", "BadText 3"), ("law x", "BadText 5"), ("law 1 (a) a", "BadText 4"),
                    ("law any (a) a", "BadText 4"), ("law x a", "BadText 6"), ("law x (", "BadText 7"),
                    ("law x ()", "BadText 7"), ("law x (a", "BadText 8"), ("law x (a a) a", "Order 9"),
                    ("law x (b a )", "Order 9"), ("law x (a b c d e) a", "TooMany 15"),
                    ("law x (a b c d a", "TooMany 15"), ("law x (a b 1) a", "BadText 11"), ("law x (a)", "BadText 9"),
                    ("law x (a,b) a", "BadText 8"), ("law x (a) b", "NoName 10"), ("law x (a) a | c", "NoName 14"),
                    ("law x (a) a a)", "BadText 13"), ("law x (a) (a", "BadText 12"), ("law x (a) |", "BadText 10"),
                    ("law x (a)" + "(" * 31, "TooDeep 39"), ("law x (a)" + "!" * 31, "TooDeep 39"),
                    ("law x (a) " + "a|" * 24 + "a", "TooMany 58"), ("law x (a) " + "a|" * 24 + "c", "TooMany 58"),
                    ("law x (a) " + "a|" * 23 + "c", "NoName 56"), ("law o (b a )", "BadText 4"),
                    ("law x (o) o", "BadText 7"), ("law x (a) a; a", "BadText 11"), ("law x (a) a 1", "BadText 12"),
                    ("law xxxxxxxxxxxxx (a) a", "BadText 4")])
        self.assertEqual(Session().row("law x (a) " + "a|" * 23 + "a"), "rooms 3")
        self.assertEqual(Session().row("law x (a)" + "(" * 30 + "a" + ")" * 30), "rooms 3")
        self.assertEqual(Session().row("law put (cut seen) cut seen"), "rooms 4")

    def test_lines(self):
        session = Session()
        session.row("law x (a) a*")
        self.check([("paint x 4 : o", "BadText 12"), ("paint x 4 : 12 o 12", "BadText 15"),
                    ("paint x 4 : 0", "BadText 12"), ("paint x 4 : 12 a 0", "BadText 17"),
                    ("paint x 4 : 12 -", "BadText 15"), ("paint x 4 : - 12", "BadText 14"),
                    ("paint x 4 : 12 any", "BadText 15"), ("paint x 4 : 12 : 12", "BadText 15"),
                    ("paint x 4 : 6001", "TooMany 12"), ("paint x 4 : 6000 a", "TooMany 17"),
                    ("paint x 4 : 6000 zz", "TooMany 17"), ("paint x 4 : 3000 zz 3000", "TooMany 20"),
                    ("paint x 4 : 6000 o", "BadText 17"), ("paint x 4 : " + "9" * 30, "TooMany 12"),
                    ("paint x 4 : " + "9" * 31, "BadText 12")], session)
        # The names of the line's stations are not asked before the end of the row has been read.
        self.check([("paint x 4 : zz 12 )", "BadText 18"), ("paint x 4 : zz 12", "NoName 12"),
                    ("paint x 4 : zz o", "BadText 15"), ("paint x 4 : zz 6000", "TooMany 15")], session)

    def test_before_all_other_questions(self):
        self.check([("show x y", "BadText 7"), ("show x", "NoLaw x"), ("price x 0", "NoLaw x"),
                    ("paint x 99 : zz", "NoLaw x"), ("paint x 99 : zz 0", "BadText 16"), ("put 9 zz", "BadText 8"),
                    ("put 9 zz 9", "NoTrack 0"), ("line 1", "BadText 5"), ("wipe", "BadText 4")])

    def test_20000_signs_and_20001(self):
        self.assertEqual(Session().row("back" + " " * 19996), "refused: NothingBack 0")
        self.assertEqual(Session().row("back" + " " * 19997), "refused: BadText 20000")
        self.assertEqual(Session().row(")" * 20001), "refused: BadText 20000")
        head = "law x (a b) (a b)"
        self.assertEqual(Session().row(head + "*" * (20000 - len(head))), "rooms 3")


class LaterQuestions(Case):
    """2. to 4. of [26.4]."""

    def started(self):
        session = Session()
        session.row(EVEN_LAW)
        session.row("law wide (a b) any* a any any any any")
        session.row("law ring (a) " + "(" + "a " * 13 + ")*")
        session.row("law six (a) (a a a a a a)*")
        return session

    def check(self, session, rows):
        for row, wanted in rows:
            self.assertEqual(session.row(row), wanted, row)

    def test_no_law_and_no_track(self):
        session = self.started()
        for row in ("show odd", "drop odd", "least odd", "price odd 4", "price odd 99", "paint odd 4 : 12 zz",
                    "paint odd 4 : -"):
            self.assertEqual(session.row(row), "refused: NoLaw odd", row)
        self.assertEqual(session.row("show zzzzzzzzzzzz"), "refused: NoLaw zzzzzzzzzzzz")
        for row in ("line", "put 0 zz 0", "cut 0", "size 0 0", "undo", "redo", "seen 0", "wipe 0"):
            self.assertEqual(session.row(row), "refused: NoTrack 0", row)
        # A paint that is refused makes no track.
        self.assertEqual(session.row("paint even 4 : 12 a 12"), "refused: NotLet 0")
        self.assertEqual(session.row("line"), "refused: NoTrack 0")

    def test_names(self):
        session = self.started()
        self.check(session, [("paint even 4 : 12 c 12 d 12", "refused: NoName 18"),
                             ("paint even 99 : a a c", "refused: NoName 20"),
                             # Before least_machine, which refuses this law.
                             ("paint wide 4 : 12 c 12", "refused: NoName 18"),
                             ("paint wide 4 : 12 a 12", "refused: TooMany 32"),
                             ("paint even 4 : 12 b 12", "dots 0"), ("put 9 c 99", "refused: NoName 0"),
                             ("put 9 a 99", "refused: BadAt 9"), ("put 9 even 0", "refused: NoName 0")])

    def test_least_machine_goes_before_the_others(self):
        session = self.started()
        self.check(session, [("least wide", "refused: TooMany 32"), ("price wide 0", "refused: TooMany 32"),
                             ("paint wide 0 : -", "refused: TooMany 32"), ("least ring", "refused: TooMany 13"),
                             ("price ring 99", "refused: TooMany 13"), ("paint ring 99 : 12", "refused: TooMany 13"),
                             ("least six", "rooms 6 sure 6 price 9 5 at 63"), ("price six 0", "refused: BadK 0"),
                             ("paint six 0 : -", "refused: TooMany 6"), ("price even 61", "refused: BadK 0"),
                             ("price six 60", "1 33"), ("paint even 0 : a", "refused: BadK 0"),
                             ("price even " + "9" * 30, "refused: BadK 0")])

    def test_what_track_raises(self):
        session = self.started()
        self.check(session, [("paint even 61 : a 12", "refused: BadK 0"), ("paint even 3 : a 12", "refused: TooThin 4"),
                             ("paint even 4 : a 12", "refused: NotLet 0"), ("paint even 4 : b 12", "refused: Short 0"),
                             ("paint even 4 : 12 b 11", "refused: Short 1"), ("paint even 4 : 5001", "refused: BadLengths 0"),
                             ("paint even 4 : 12 b 5987", "refused: BadLengths 1"),
                             ("paint even 3 : " + "b " * 201, "refused: BadWord -1"),
                             ("paint even 61 : " + "b " * 201, "refused: BadK 0"),
                             ("paint even 3 : " + "b " * 200, "refused: TooThin 4"),
                             ("paint even 4 : " + "b " * 200, "refused: Short 0"),
                             ("paint even 4 : 3000 b 2999", "dots 0"), ("size 0 3001", "refused: TooLong 6001")])

    def test_what_put_raises(self):
        session = Session()
        for at in range(20):
            self.assertEqual(session.row(f"law l{at} (a) a"), "rooms 3")
        self.check(session, [("law x (a) a", "refused: Full 20"),
                             # The joinings come first.
                             ("law x (a b) any* a any any any any any", "refused: TooMany 64"),
                             ("law l7 (a b) any*", "rooms 1"), ("show l7", "rooms 1; starts 0; ends 0; 0 a 0, 0 b 0"),
                             ("law x (a) a )", "refused: BadText 12"), ("drop l0", " ".join(sorted(
                                 f"l{at}" for at in range(1, 20)))), ("law x (a) a", "rooms 3"),
                             ("law y (a) a", "refused: Full 20")])

    def test_what_the_methods_of_the_track_raise(self):
        session = self.started()
        session.row("paint even 4 : 12 a 13 a 14")
        self.check(session, [("put 3 a 0", "refused: BadAt 3"), ("put 1 a 13", "refused: BadSize 0"),
                             ("put 1 a 5", "refused: NotLet 0"), ("put 1 b 5", "refused: Short 1"),
                             ("cut 2", "refused: BadAt 2"), ("cut 1", "refused: NotLet 0"),
                             ("size 3 1", "refused: BadAt 3"), ("size 1 5001", "refused: BadSize 0"),
                             ("size 1 11", "refused: Short 1"), ("seen 41", "refused: BadPlace 41"),
                             ("seen 12", "refused: BadPlace 12"), ("wipe 0", "refused: BadPlace 0"),
                             ("wipe " + "9" * 30, "refused: BadPlace " + "9" * 30),
                             ("put " + "9" * 30 + " a 0", "refused: BadAt " + "9" * 30),
                             ("undo", "refused: NothingBack 0"), ("redo", "refused: NothingAgain 0"),
                             ("line", "12 a o o 1 o 3 o 3 o o a 14")])

    def test_refused_rows_change_nothing(self):
        session = self.started()
        session.row("paint even 4 : 12 a 13 a 14")
        session.row("size 0 20")
        session.row("size 0 21")
        session.row("undo")
        session.row("drop six")
        session.row("drop ring")
        session.row("back")
        shown = [session.row(row) for row in ("line", "show even", "show wide", "show ring")]
        refused = ["", "x", 7, None, "law even (b a) a", "law even (a) c", "law even (a) (a", "law even (a b) any* a "
                   + "any " * 5, "law six (a) a " + "a " * 24, "show six", "drop six", "least wide", "price even 0",
                   "paint six 4 : 12", "paint even 4 : c", "paint even 4 : 12 a 12", "paint even 4 : 12 o",
                   "paint wide 4 : 12", "put 9 a 0", "put 0 c 0", "put 0 a 5", "cut 0", "cut 7", "size 0 5",
                   "size 9 50", "seen 999", "wipe 0", "line line"]
        for row in refused:
            self.assertTrue(session.row(row).startswith("refused: "), row)
            self.assertEqual([session.row(row) for row in ("line", "show even", "show wide", "show ring")], shown)
        # What could be undone and done again still can be, once each.
        self.check(session, [("redo", "a a"), ("redo", "refused: NothingAgain 0"), ("undo", "a a"), ("undo", "a a"),
                             ("undo", "refused: NothingBack 0"), ("line", "12 a o o 1 o 3 o 3 o o a 14"),
                             ("again", "even wide"), ("again", "refused: NothingAgain 0"), ("back", "even ring wide"),
                             ("back", "even ring six wide"), ("back", "even ring wide"), ("back", "even wide"),
                             ("back", "even"), ("back", "-"), ("back", "refused: NothingBack 0")])

    def test_errors_are_told_as_they_are(self):
        session = self.started()
        for row, kind in (("show odd", NoLaw("odd")), ("line", NoTrack(0)), ("paint even 4 : c", NoName(15))):
            self.assertEqual(session.row(row), f"refused: {type(kind).__name__} {kind.what}")


if __name__ == "__main__":
    unittest.main()
