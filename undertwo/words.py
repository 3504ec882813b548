"""The words of texts: how a text is cut into words, and which of them are names and numbers."""

from undertwo.errors import BadText

LONGEST_TEXT = 20000
LONGEST_NAME = 12
MOST_FIGURES = 30
KEPT_WORDS = ("o", "any", "empty", "none", "dark", "k", "m", "rooms", "starts", "ends", "law", "show", "drop", "back",
              "again", "least", "price", "paint", "line")
# Words of several grammars: for what has no parts, and between parts.
NONE = "-"
BETWEEN = "|"


def check_text(text):
    """Refuses what is not a text, or has too many signs or one that texts do not have."""
    if not isinstance(text, str):
        raise BadText(-1)
    for at, sign in enumerate(text):
        if at == LONGEST_TEXT or not " " <= sign <= "~":
            raise BadText(at)


def is_letter(sign):
    """Whether the sign is a small letter."""
    return "a" <= sign <= "z"


def is_figure(sign):
    """Whether the sign is a figure."""
    return "0" <= sign <= "9"


def is_of_run(sign, more):
    """Whether the sign belongs to runs; `more` has those that do besides letters and figures."""
    return is_letter(sign) or is_figure(sign) or sign in more


def is_name(thing):
    """Whether the thing is a name."""
    if not isinstance(thing, str) or not 1 <= len(thing) <= LONGEST_NAME or thing in KEPT_WORDS:
        return False
    return is_letter(thing[0]) and all([is_of_run(sign, "") for sign in thing])


def is_number_word(word):
    """Whether the word is a number."""
    if not 1 <= len(word) <= MOST_FIGURES or not all([is_figure(sign) for sign in word]):
        return False
    return word == "0" or word[0] != "0"


def words_in(text, more):
    """The words of the text, each with its place; the last one is empty and has the place of the end."""
    found = []
    at = 0
    while at < len(text):
        after = at + 1
        if is_of_run(text[at], more):
            while after < len(text) and is_of_run(text[after], more):
                after += 1
        if text[at] != " ":
            found.append((at, text[at:after]))
        at = after
    return [*found, (len(text), "")]


class Words:
    """The words of a text, taken one by one; each is refused where it cannot stand."""

    def __init__(self, text, more):
        check_text(text)
        self._words = words_in(text, more)
        self._at = 0

    def word(self):
        """The next word; it is empty at the end."""
        return self._words[self._at][1]

    def place(self):
        """The place of the next word, or of the end."""
        return self._words[self._at][0]

    def check(self, fits):
        """Refuses the next word unless it fits."""
        if not fits:
            raise BadText(self.place())

    def take(self):
        """Takes the next word, whatever it is."""
        word = self.word()
        self._at += 1
        return word

    def take_just(self, wanted):
        """Takes the wanted word."""
        self.check(self.word() == wanted)
        return self.take()

    def take_name(self):
        """Takes a name."""
        self.check(is_name(self.word()))
        return self.take()

    def take_number(self):
        """Takes a number; returns it."""
        self.check(is_number_word(self.word()))
        return int(self.take())

    def finish(self):
        """Refuses the next word unless it is the end."""
        self.check(self.word() == "")
