"""Boards: a table that is changed, with changes that can be taken back, and trials."""

from nearandfar.caps import under
from nearandfar.errors import NothingToUndo
from nearandfar.rests import taken
from nearandfar.tables import check_table
from nearandfar.ways import closed


class Token:
    """What is equal to itself alone."""


class Kept:
    """What a board or a desk was when a trial began, and what is kept for the trials around it by the same object."""

    def __init__(self, states, outer):
        self.states = states
        self.outer = outer


class Trial:
    """Rows of a with statement; if they end with an exception, all is as it was when they began."""

    def __init__(self, holder):
        self._holder = holder
        self._kept = None

    def __enter__(self):
        self._kept = Kept(self._holder._states, self._kept)
        return self._holder

    def __exit__(self, kind, value, trace):
        if kind is not None:
            self._holder._states = self._kept.states
        self._kept = self._kept.outer


class Board:
    """A table that is changed by methods, and all that it was before."""

    def __init__(self, table):
        check_table(table)
        self._states = (table,)
        # Python would ask the other side of == about a board that has no answer of its own.
        self._token = Token()

    @property
    def now(self):
        """The table."""
        return self._states[-1]

    @property
    def changes(self):
        """How many changes can be taken back."""
        return len(self._states) - 1

    def __eq__(self, other):
        return isinstance(other, Board) and self._token == other._token

    def put(self, letter, row):
        """Put a thing more on the table, with its distances from the others."""
        self._states = self._states + (self.now.grown(letter, row),)

    def take(self, thing):
        """Take a thing away."""
        self._states = self._states + (self.now.without(thing),)

    def change(self, pair, distance):
        """Give a pair another distance."""
        self._states = self._states + (self.now.changed(pair, distance),)

    def close(self):
        """Put the closed table in the place of the table."""
        self._states = self._states + (closed(self.now),)

    def strip(self, parting, by):
        """Take a number off each distance that a clear parting parts."""
        self._states = self._states + (taken(self.now, parting, by),)

    def cover(self, letter, lifts):
        """Put a thing more on the table, its distances being the lifts of a cap."""
        self._states = self._states + (under(self.now, letter, lifts),)

    def undo(self):
        """Take the last change back."""
        if len(self._states) == 1:
            raise NothingToUndo()
        self._states = self._states[:-1]

    def trial(self):
        """Return what stands in a with statement whose rows are taken back if they end with an exception."""
        return Trial(self)

    def tried(self, action):
        """Call a function with the board within a trial, and return what it returns."""
        with self.trial():
            return action(self)
