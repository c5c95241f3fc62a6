"""The errors of this package.

Each class keeps its attribute by itself: no class may stand between it and its base.
"""


class WrongValue(ValueError):
    """A value is of the wrong kind or form."""


class InvalidText(WrongValue):
    """What was given is no text of what was asked for."""

    def __init__(self, given):
        self.given = given


class InvalidThings(WrongValue):
    """What was given is no right string of things."""

    def __init__(self, given):
        self.given = given


class InvalidThing(WrongValue):
    """What was given is no letter for a new thing."""

    def __init__(self, given):
        self.given = given


class InvalidPair(WrongValue):
    """What was given is no pair of the things."""

    def __init__(self, given):
        self.given = given


class InvalidWay(WrongValue):
    """What was given is no way of the table's things."""

    def __init__(self, given):
        self.given = given


class InvalidNumber(WrongValue):
    """What was given is no integer that is allowed here."""

    def __init__(self, given):
        self.given = given


class InvalidParting(WrongValue):
    """What was given is no parting of the things."""

    def __init__(self, given):
        self.given = given


class InvalidOrder(WrongValue):
    """What was given is no order of the things."""

    def __init__(self, given):
        self.given = given


class InvalidTie(WrongValue):
    """What was given is no PAIR of a tie of the web."""

    def __init__(self, given):
        self.given = given


class InvalidRenaming(WrongValue):
    """What was given is no string of all things of the table."""

    def __init__(self, given):
        self.given = given


class InvalidPile(WrongValue):
    """What was given is no pile for the table."""

    def __init__(self, given):
        self.given = given


class InvalidHeights(WrongValue):
    """What was given is no heights for the table."""

    def __init__(self, given):
        self.given = given


class InvalidLifts(WrongValue):
    """What was given is no lifts of the kind that is asked for."""

    def __init__(self, given):
        self.given = given


class InvalidName(WrongValue):
    """What was given is no name for a table."""

    def __init__(self, given):
        self.given = given


class InvalidWish(WrongValue):
    """What was given is no wish."""

    def __init__(self, given):
        self.given = given


class InvalidCommand(WrongValue):
    """What was given is no command of a console."""

    def __init__(self, given):
        self.given = given


class NotATable(WrongValue):
    """What was given is no Table."""

    def __init__(self, given):
        self.given = given


class NotAWeb(WrongValue):
    """What was given is no Web."""

    def __init__(self, given):
        self.given = given


class NotASheet(WrongValue):
    """What was given is no Sheet."""

    def __init__(self, given):
        self.given = given


class InvalidDistances(WrongValue):
    """The distances are not those of a table, the first wrong one at this index."""

    def __init__(self, index):
        self.index = index


class InvalidRow(WrongValue):
    """The row is not one of distances from the things, the first wrong one at this index."""

    def __init__(self, index):
        self.index = index


class InvalidParts(WrongValue):
    """The parts are not as they are asked for, the first wrong one at this index."""

    def __init__(self, index):
        self.index = index


class InvalidTies(WrongValue):
    """The ties are not those of a web, the first wrong one at this index."""

    def __init__(self, index):
        self.index = index


class InvalidPiles(WrongValue):
    """The piles are not as they are asked for, the first wrong one at this index."""

    def __init__(self, index):
        self.index = index


class InvalidLog(WrongValue):
    """The log is not that of a desk, the first wrong change at this index."""

    def __init__(self, index):
        self.index = index


class WrongName(LookupError):
    """Something is called by a name that cannot be used so."""


class UnknownThing(WrongName):
    """What was given is no thing of the table."""

    def __init__(self, given):
        self.given = given


class UnknownName(WrongName):
    """What was given is no name of the desk."""

    def __init__(self, given):
        self.given = given


class InUse(WrongName):
    """A promise, the one with this index, has the name."""

    def __init__(self, index):
        self.index = index


class NotPossible(ArithmeticError):
    """What is asked for is not there or cannot be done."""


class NotRight(NotPossible):
    """The table is not right: a distance is greater than that of a way."""

    def __init__(self, given):
        self.given = given


class HasTwins(NotPossible):
    """The table has twins."""

    def __init__(self, given):
        self.given = given


class NotRound(NotPossible):
    """The table is not round-right by the order."""

    def __init__(self, given):
        self.given = given


class NotAClock(NotPossible):
    """The table is no clock."""

    def __init__(self, given):
        self.given = given


class NotJoined(NotPossible):
    """One does not come to this place from the first thing."""

    def __init__(self, given):
        self.given = given


class TooFar(NotPossible):
    """The two things of this pair would be too far apart."""

    def __init__(self, given):
        self.given = given


class TooFew(NotPossible):
    """So few things are no table."""

    def __init__(self, given):
        self.given = given


class TooMany(NotPossible):
    """So many, or so great a number, is more than there can be."""

    def __init__(self, given):
        self.given = given


class Halves(NotPossible):
    """The distance of this pair would be no integer."""

    def __init__(self, given):
        self.given = given


class Unlike(NotPossible):
    """The sums of two piles are unlike, by this number."""

    def __init__(self, given):
        self.given = given


class Torn(NotPossible):
    """The sheet has no filling."""

    def __init__(self, given):
        self.given = given


class NoTree(NotPossible):
    """The table comes of no tree."""


class NothingToUndo(NotPossible):
    """There is no change to be taken back."""


class Broken(NotPossible):
    """The promise with this index does not hold."""

    def __init__(self, index):
        self.index = index
