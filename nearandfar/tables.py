"""Tables: things, and a distance for each pair of them."""

from nearandfar.basics import (
    LETTERS,
    both_ways,
    check_pair,
    check_thing,
    check_things,
    is_integer_within,
    is_letter,
    pairs_of,
    read_rows,
    written,
)
from nearandfar.errors import (
    InvalidDistances,
    InvalidNumber,
    InvalidRow,
    InvalidText,
    InvalidThing,
    InvalidThings,
    NotATable,
    TooFew,
    TooMany,
    WrongValue,
)
from nearandfar.limits import LEAST_THINGS, MOST_DISTANCE, MOST_THINGS

MOST_FACTOR = 1000


class Table:
    """Ascending things with a distance for each pair; it never changes."""

    def __init__(self, things, distances):
        check_things(things)
        check_distances(things, distances, is_distance)
        self._things = things
        self._distances = distances
        self._lengths = both_ways(things, distances)

    @classmethod
    def told(cls, text):
        """Return the table with this text."""
        things, distances = read_rows(text, None)
        try:
            return cls(things, distances)
        except WrongValue:
            raise InvalidText(text) from None

    @property
    def things(self):
        """The ascending string of the things."""
        return self._things

    @property
    def distances(self):
        """The tuple of pairs (PAIR, DISTANCE), ascending."""
        return self._distances

    def __str__(self):
        return str(written(self._things, self._distances))

    def __len__(self):
        return len(self._things)

    def __eq__(self, other):
        return isinstance(other, Table) and self._things == other._things and self._distances == other._distances

    def far(self, thing, other):
        """Return the distance of two things, 0 for the same thing."""
        check_thing(self._things, thing)
        check_thing(self._things, other)
        return self._lengths[thing + other]

    def changed(self, pair, distance):
        """Return the table in which a pair has another distance."""
        check_pair(self._things, pair)
        if not is_distance(distance):
            raise InvalidNumber(distance)
        return Table(self._things, tuple([(at, distance if at == pair else far) for at, far in self._distances]))

    def without(self, thing):
        """Return the table without a thing."""
        check_thing(self._things, thing)
        if len(self._things) == LEAST_THINGS:
            raise TooFew(LEAST_THINGS - 1)
        kept = tuple([(pair, far) for pair, far in self._distances if thing not in pair])
        return Table(self._things.replace(thing, ""), kept)

    def grown(self, letter, row):
        """Return the table with a thing more that has the distances of the row from the others."""
        check_letter(self._things, letter)
        check_row(self._things, row)
        if len(self._things) == MOST_THINGS:
            raise TooMany(MOST_THINGS + 1)
        lengths = {pair: far for pair, far in self._distances}
        for thing, far in zip(self._things, row):
            lengths[ascending(thing + letter)] = far
        return table_of(ascending(self._things + letter), lengths)

    def renamed(self, letters):
        """Return the table whose things are these letters, one for each thing, in the order of the things."""
        if not is_renaming(letters, len(self._things)):
            raise InvalidThings(letters)
        new = {thing: letter for thing, letter in zip(self._things, letters)}
        lengths = {ascending(new[pair[0]] + new[pair[1]]): far for pair, far in self._distances}
        return table_of(ascending(letters), lengths)


def ascending(letters):
    """Return these letters as an ascending string."""
    return "".join(sorted(letters))


def table_of(things, lengths):
    """Return the table of ascending things with the distances of a dict by pairs."""
    return Table(things, tuple([(pair, lengths[pair]) for pair in pairs_of(things)]))


def is_distance(value):
    """Tell whether any value is a distance."""
    return is_integer_within(value, 0, MOST_DISTANCE)


def check_letter(things, letter):
    """Raise InvalidThing for what is no letter for a thing beside these."""
    if not is_letter(letter, LETTERS) or letter in things:
        raise InvalidThing(letter)


def is_entry(value, pair):
    """Tell whether any value is a pair of this PAIR and something else."""
    return isinstance(value, tuple) and len(value) == 2 and isinstance(value[0], str) and value[0] == pair


def check_distances(things, distances, fits):
    """Raise InvalidDistances for what is no tuple of pairs (PAIR, DISTANCE) for all pairs of these things.

    fits tells of any value whether it may stand as DISTANCE.
    """
    if not isinstance(distances, tuple):
        raise InvalidDistances(None)
    pairs = pairs_of(things)
    for index, entry in enumerate(distances):
        if index == len(pairs) or not is_entry(entry, pairs[index]) or not fits(entry[1]):
            raise InvalidDistances(index)
    if len(distances) < len(pairs):
        raise InvalidDistances(len(distances))


def check_row(things, row):
    """Raise InvalidRow for what is no tuple of one distance for each of these things."""
    if not isinstance(row, tuple):
        raise InvalidRow(None)
    for index, distance in enumerate(row):
        if index == len(things) or not is_distance(distance):
            raise InvalidRow(index)
    if len(row) < len(things):
        raise InvalidRow(len(row))


def is_renaming(value, size):
    """Tell whether any value is a string of so many unlike letters from a to z."""
    if not isinstance(value, str) or len(value) != size:
        return False
    return all([letter in LETTERS and value.count(letter) == 1 for letter in value])


def check_table(table):
    """Raise NotATable for what is no Table."""
    if not isinstance(table, Table):
        raise NotATable(table)


def table_within(things, lengths):
    """Return the table of these lengths, if none of them is too great."""
    greatest = max([lengths[pair] for pair in lengths])
    if greatest > MOST_DISTANCE:
        raise TooMany(greatest)
    return table_of(things, lengths)


def times(table, factor):
    """Return the table with all distances so many times as great."""
    check_table(table)
    if not is_integer_within(factor, 0, MOST_FACTOR):
        raise InvalidNumber(factor)
    return table_within(table.things, {pair: far * factor for pair, far in table.distances})


def added(table, other_table):
    """Return the table whose distances are the sums of those of both."""
    check_table(table)
    check_table(other_table)
    if table.things != other_table.things:
        raise InvalidThings(other_table.things)
    return table_within(table.things, {pair: far + other_table.far(pair[0], pair[1]) for pair, far in table.distances})
