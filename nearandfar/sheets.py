"""Sheets: things, and for each pair a distance that may be unknown."""

from nearandfar.basics import check_pair, check_things, read_rows, written
from nearandfar.errors import InvalidNumber, InvalidText, NotASheet, WrongValue
from nearandfar.tables import check_distances, is_distance

UNKNOWN = "?"


class Sheet:
    """Ascending things with a distance, or None, for each pair; it never changes."""

    def __init__(self, things, distances):
        check_things(things)
        check_distances(things, distances, is_distance_or_none)
        self._things = things
        self._distances = distances
        self._text = written(things, [(pair, UNKNOWN if far is None else far) for pair, far in distances])

    @classmethod
    def told(cls, text):
        """Return the sheet with this text."""
        things, distances = read_rows(text, UNKNOWN)
        try:
            return cls(things, distances)
        except WrongValue:
            raise InvalidText(text) from None

    @property
    def things(self):
        """The ascending string of the things."""
        return self._things

    @property
    def distances(self):
        """The tuple of pairs (PAIR, DISTANCE), ascending, None for what is not known."""
        return self._distances

    @property
    def unknown(self):
        """The ascending tuple of the unknown pairs."""
        return tuple([pair for pair, far in self._distances if far is None])

    @property
    def text(self):
        """The things, and a line for each pair, with a question mark for what is not known."""
        return self._text

    def __str__(self):
        return str(self._text)

    def __len__(self):
        return len(self._things)

    def __eq__(self, other):
        return isinstance(other, Sheet) and self._text == other._text

    def told_more(self, pair, distance):
        """Return the sheet in which a pair has this distance, whether it had one or not."""
        check_pair(self._things, pair)
        if not is_distance(distance):
            raise InvalidNumber(distance)
        return Sheet(self._things, tuple([(at, distance if at == pair else far) for at, far in self._distances]))


def is_distance_or_none(value):
    """Tell whether any value is a distance or None."""
    return value is None or is_distance(value)


def check_sheet(sheet):
    """Raise NotASheet for what is no Sheet."""
    if not isinstance(sheet, Sheet):
        raise NotASheet(sheet)
