"""The errors of the package. Each keeps its one argument in `what`."""


class Refused(ValueError):
    """The base class of all others."""

    def __init__(self, what):
        # No message is made of it: it may be too great to be written.
        ValueError.__init__(self)
        self.what = what
        # A session tells the class and `what` of an error.
        self.kind = self.__class__.__name__


class BadK(Refused):
    """The argument is not a number of cells of a view that is let here."""


class BadRow(Refused):
    """The argument is not a row."""


class BadRows(Refused):
    """The argument is not a tuple of rows."""


class NoDots(Refused):
    """The row has no dots."""


class BadStart(Refused):
    """The argument is not a cell to start from."""


class BadMany(Refused):
    """The number is not within its bounds."""


class BadView(Refused):
    """The argument is not a view."""


class BadTs(Refused):
    """The argument is not a tuple of thicknesses."""


class NoFit(Refused):
    """The thicknesses do not fit."""


class Blank(Refused):
    """A row has the view without dots."""


class Shared(Refused):
    """Two rows share a view."""


class Thin(Refused):
    """A row has a thickness below 1."""


class BadWeights(Refused):
    """The argument is not a tuple of weights."""


class NoRoom(Refused):
    """There is no room for so many, or no such room."""


class BadMachine(Refused):
    """The argument is not a machine."""


class BadWord(Refused):
    """The argument is not a word of the machine's letters."""


class TooMany(Refused):
    """There are more things than allowed."""


class BadRoom(Refused):
    """There is no such room."""


class Unlike(Refused):
    """Two things do not fit together."""


class BadLot(Refused):
    """The argument is not a tuple of indexes."""


class TooThin(Refused):
    """The view has too few cells."""


class BadSize(Refused):
    """The size is not let."""


class BadLine(Refused):
    """The argument is not a line."""


class BadLengths(Refused):
    """The argument is not a tuple of lengths for the word."""


class TooLong(Refused):
    """The line is too long."""


class NotLet(Refused):
    """The machine does not let the word."""


class Short(Refused):
    """A length is not let."""


class BadInspector(Refused):
    """The argument is not an inspector."""


class BadKnot(Refused):
    """There is no such knot."""


class Wide(Refused):
    """The gaps are more than a row may have, or greater."""


class BadLimit(Refused):
    """The argument is not a limit."""


class BadAt(Refused):
    """There is no such station or stretch."""


class BadLetter(Refused):
    """There is no such letter."""


class NothingBack(Refused):
    """There is nothing to undo."""


class NothingAgain(Refused):
    """There is nothing to do again."""


class BadPlace(Refused):
    """There is no such cell."""


class BadText(Refused):
    """The text is wrong."""


class BadNames(Refused):
    """The argument is not a tuple of names."""


class NoName(Refused):
    """There is no such name."""


class TooDeep(Refused):
    """Too many brackets and signs are open."""


class Twice(Refused):
    """The same stands twice."""


class BadGap(Refused):
    """The gap is not from 1 to 99."""


class Long(Refused):
    """The text would be too long."""


class BadName(Refused):
    """The argument is not a name."""


class Full(Refused):
    """No more are kept."""


class NoLaw(Refused):
    """There is no law of this name."""


class Order(Refused):
    """The names are not in order."""


class NoTrack(Refused):
    """There is no track."""
