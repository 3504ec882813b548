"""Laws as they are written: the joinings that a text tells, in the order in which they are done."""

from undertwo.errors import NoName, TooDeep, TooMany
from undertwo.joining import behind, both, butnot, either, opposite, repeated
from undertwo.sure import sure_of
from undertwo.words import is_name

MOST_NAMES_IN_LAW = 24
MOST_OPEN = 30
SIGNS = ("|", "&", "-")
PLAIN_LAWS = ("any", "empty")
# No sign stands where a unit follows a unit, so a blank does for it among the steps.
BEHIND = " "


class LawReading:
    """A law that is read: its steps, each a plain law or a joining of what the steps before it leave, the last
    ones of these first."""

    def __init__(self, names):
        self.steps = []
        self._names = names
        self._many = 0
        # The brackets and `!` that are open, and for each bracket what was to be joined outside of it.
        self._open = []
        self._around = []
        # The sign ahead of the term, and whether the term has a unit already.
        self._sign = None
        self._begun = False

    def take_unit(self, words):
        """Takes the first word of a unit; returns whether a unit is still to come."""
        if words.word() in ("(", "!"):
            self._open_one(words)
            return True
        words.check(words.word() in PLAIN_LAWS or is_name(words.word()))
        self._many += 1
        if self._many > MOST_NAMES_IN_LAW:
            raise TooMany(words.place())
        if words.word() not in PLAIN_LAWS and words.word() not in self._names:
            raise NoName(words.place())
        self.steps.append(words.take())
        return False

    def take_behind_unit(self, words):
        """Takes what stands behind a unit; returns whether a unit is to come."""
        word = words.word()
        if word in ("*", "?"):
            self.steps.append(words.take())
            return False
        if word in SIGNS:
            self._end_term()
            self._sign = words.take()
            self._begun = False
            return True
        if word == ")":
            words.check(len(self._around) > 0)
            self._close_bracket()
            words.take()
            return False
        # What cannot begin a unit is refused where the unit is taken.
        self._end_unit()
        return self.take_unit(words)

    def end(self, words):
        """Ends the whole at the end of the text."""
        words.check(not self._around)
        self._end_term()

    def _open_one(self, words):
        """Takes a bracket or a `!`."""
        if len(self._open) == MOST_OPEN:
            raise TooDeep(words.place())
        self._open.append(words.take())
        if self._open[-1] == "(":
            self._around.append((self._sign, self._begun))
            self._sign = None
            self._begun = False

    def _close_bracket(self):
        """Ends what is within the last bracket; it is a unit of the term outside."""
        self._end_term()
        self._open.pop()
        self._sign, self._begun = self._around.pop()

    def _end_unit(self):
        """No more belongs to the last unit: it is joined to what stands ahead of it in the term."""
        while self._open and self._open[-1] == "!":
            self.steps.append(self._open.pop())
        if self._begun:
            self.steps.append(BEHIND)
        self._begun = True

    def _end_term(self):
        """No more belongs to the last term: it is joined to what stands ahead of it."""
        self._end_unit()
        if self._sign is not None:
            self.steps.append(self._sign)


def taken_law(words, names):
    """Takes all words to the end of the text as a law; returns its steps."""
    reading = LawReading(names)
    wanted = True
    while wanted or words.word() != "":
        wanted = reading.take_unit(words) if wanted else reading.take_behind_unit(words)
    reading.end(words)
    return reading.steps


def plain_law(names, word):
    """The least sure machine of a name, `any` or `empty`."""
    if word == "empty":
        return sure_of((len(names), 1, (0,), (0,), ()))
    moves = [(0, letter, 1) for letter, name in enumerate(names) if word in ("any", name)]
    return sure_of((len(names), 2, (0,), (1,), tuple(moves)))


def joined_two(sign, one, two):
    """Two laws, joined as the sign says."""
    if sign == "|":
        return either(one, two)
    if sign == "&":
        return both(one, two)
    if sign == "-":
        return butnot(one, two)
    return behind(one, two)


def joined_one(sign, one, nothing):
    """One law, joined as the sign says; `nothing` is the law of the empty word."""
    if sign == "*":
        return repeated(one)
    if sign == "?":
        return either(one, nothing)
    return opposite(one)


def law_of(names, steps):
    """The least sure machine of the law with these steps."""
    left = []
    nothing = plain_law(names, "empty")
    # A text may have thousands of `*` and `?` in a row, which soon change nothing any more.
    done = {}
    for step in steps:
        if step in SIGNS or step == BEHIND:
            two = left.pop()
            one = left.pop()
            left.append(joined_two(step, one, two))
        elif step in ("*", "?", "!"):
            one = left.pop()
            if (step, one) not in done:
                done[(step, one)] = joined_one(step, one, nothing)
            left.append(done[(step, one)])
        else:
            left.append(plain_law(names, step))
    return left[0]
