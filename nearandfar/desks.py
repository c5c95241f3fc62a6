"""Desks: tables under names, promises that hold after each change, and logs."""

from nearandfar.basics import LETTERS, is_integer, is_integer_within, is_lot, is_pair, is_parting
from nearandfar.boards import Token, Trial
from nearandfar.clocks import is_clock, level
from nearandfar.crowds import MOST_WITH_CROWD, crowd
from nearandfar.errors import (
    Broken,
    InUse,
    InvalidLog,
    InvalidName,
    InvalidNumber,
    InvalidText,
    InvalidWish,
    NotPossible,
    NothingToUndo,
    UnknownName,
    WrongName,
    WrongValue,
)
from nearandfar.exchanges import are_alike, exchanges
from nearandfar.hidden import fills
from nearandfar.limits import MOST_THINGS
from nearandfar.lines import is_line
from nearandfar.moves import cost
from nearandfar.needed import needed_pairs
from nearandfar.partings import strength
from nearandfar.piles import is_pile
from nearandfar.rests import is_sum
from nearandfar.rounds import bad_four, is_order
from nearandfar.sheets import Sheet
from nearandfar.tables import Table, check_table
from nearandfar.trees import is_tree
from nearandfar.trips import shortest_length
from nearandfar.ways import is_right, spread, twins

MOST_IN_NAME = 8
SAME = "same"
# What stands behind the word of a wish, and behind the word of a change of a log.
WISHES = {
    "right": (),
    "tree": (),
    "sum": (),
    "line": (),
    "clock": (),
    "crowd": (),
    "clear": ("parting",),
    "most": ("pair", "number"),
    "least": ("pair", "number"),
    "spread": ("number",),
    "needed": ("pair",),
    "round": ("string",),
    "trip": ("number",),
    "level": ("pair", "number"),
    "cost": ("tuple", "tuple", "number"),
    "exchanges": ("number",),
    "alike": ("table",),
    "fills": ("sheet",),
}
CHANGES = {"put": 3, "drop": 2, "promise": 2, "lift": 2}


class Desk:
    """Tables under names, promises about them, and all changes that led to them."""

    def __init__(self):
        # Each state: the tables by their names, the promises, and the change of the log that led to it.
        self._states = (({}, (), None),)
        self._token = Token()

    @property
    def names(self):
        """The ascending tuple of the names."""
        return tuple(sorted(self._states[-1][0]))

    @property
    def promises(self):
        """The tuple of the promises, in their order."""
        return self._states[-1][1]

    @property
    def changes(self):
        """How many changes can be taken back."""
        return len(self._states) - 1

    @property
    def log(self):
        """The tuple of the changes that have not been taken back."""
        return tuple([change for _, _, change in self._states[1:]])

    def __len__(self):
        return len(self._states[-1][0])

    def __bool__(self):
        # By its length a desk without names would be false.
        return True

    def __eq__(self, other):
        return isinstance(other, Desk) and self._token == other._token

    def put(self, name, table):
        """Put a table under a name, also in the place of another one."""
        check_name(name)
        check_table(table)
        before, promises, _ = self._states[-1]
        tables = {**before, name: table}
        for index, promise in enumerate(promises):
            if name in names_in(promise) and not is_kept(tables, promise):
                raise Broken(index)
        self._states = self._states + ((tables, promises, ("put", name, str(table))),)

    def named(self, name):
        """Return the table with this name."""
        tables = self._states[-1][0]
        check_known(tables, name)
        return tables[name]

    def drop(self, name):
        """Take a name away."""
        tables, promises, _ = self._states[-1]
        check_known(tables, name)
        for index, promise in enumerate(promises):
            if name in names_in(promise):
                raise InUse(index)
        left = {known: tables[known] for known in tables if known != name}
        self._states = self._states + ((left, promises, ("drop", name)),)

    def promise(self, wish):
        """Put a promise behind the others."""
        if not is_promise(wish):
            raise InvalidWish(wish)
        tables, promises, _ = self._states[-1]
        for name in names_in(wish):
            check_known(tables, name)
        if not is_kept(tables, wish):
            raise Broken(len(promises))
        self._states = self._states + ((tables, promises + (wish,), ("promise", wish)),)

    def lift(self, index):
        """Take a promise away."""
        tables, promises, _ = self._states[-1]
        if not is_integer_within(index, 0, len(promises) - 1):
            raise InvalidNumber(index)
        left = promises[:index] + promises[index + 1:]
        self._states = self._states + ((tables, left, ("lift", index)),)

    def undo(self):
        """Take the last change back."""
        if len(self._states) == 1:
            raise NothingToUndo()
        self._states = self._states[:-1]

    def trial(self):
        """Return what stands in a with statement whose rows are taken back if they end with an exception."""
        return Trial(self)

    def tried(self, action):
        """Call a function with the desk within a trial, and return what it returns."""
        with self.trial():
            return action(self)


def check_name(name):
    """Raise InvalidName for what is no string of one to eight letters."""
    if not isinstance(name, str) or not 1 <= len(name) <= MOST_IN_NAME or not all([sign in LETTERS for sign in name]):
        raise InvalidName(name)


def check_known(tables, name):
    """Raise UnknownName for what is no name of these tables."""
    if not isinstance(name, str) or name not in tables:
        raise UnknownName(name)


def is_promise(value):
    """Tell whether any value is a pair (NAME, WISH), or a triple of the word same and two names."""
    if not isinstance(value, tuple) or len(value) not in (2, 3):
        return False
    if len(value) == 2:
        return is_wish(value[1]) and can_be_name(value[0])
    return isinstance(value[0], str) and value[0] == SAME and can_be_name(value[1]) and can_be_name(value[2])


def can_be_name(value):
    """Tell whether any value may stand as a name, known or not, in a promise."""
    return not isinstance(value, (list, dict))


def names_in(promise):
    """Return the tuple of the names of a promise."""
    return promise[:1] if len(promise) == 2 else promise[1:]


def is_wish(value):
    """Tell whether any value is a wish for a table."""
    if not isinstance(value, tuple) or len(value) == 0 or not isinstance(value[0], str) or value[0] not in WISHES:
        return False
    kinds = WISHES[value[0]]
    return len(value) == len(kinds) + 1 and all([is_of_kind(kind, part) for kind, part in zip(kinds, value[1:])])


def is_of_kind(kind, value):
    """Tell whether any value may stand where a wish asks for this kind."""
    if kind == "tuple":
        return isinstance(value, tuple)
    if kind == "number":
        return is_integer(value) and value >= 0
    if kind == "pair":
        return is_pair(value, LETTERS)
    if kind == "parting":
        return is_lot(value, LETTERS) and 1 <= len(value) < MOST_THINGS
    return isinstance(value, str) and (kind == "string" or is_text(kind, value))


def is_text(kind, text):
    """Tell whether a string is the text of a table, or of a sheet."""
    try:
        if kind == "table":
            Table.told(text)
        else:
            Sheet.told(text)
    except InvalidText:
        return False
    return True


def is_kept(tables, promise):
    """Tell whether a promise holds for tables by their names."""
    if len(promise) == 3:
        return are_alike(tables[promise[1]], tables[promise[2]])
    return holds(tables[promise[0]], promise[1])


def holds(table, wish):
    """Tell whether a wish is true of a table."""
    word, told = wish[0], wish[1:]
    if len(told) == 0:
        return holds_alone(table, word)
    if word in ("most", "least", "level", "needed"):
        return is_pair(told[0], table.things) and holds_of_pair(table, word, told)
    if word == "clear":
        return is_parting(told[0], table.things) and strength(table, told[0]) > 0
    if word == "round":
        return is_order(told[0], table.things) and is_right(table) and bad_four(table, told[0]) is None
    if word == "cost":
        return holds_of_piles(table, told[0], told[1], told[2])
    if word == "alike":
        return are_alike(table, Table.told(told[0]))
    if word == "fills":
        return fills(Sheet.told(told[0]), table)
    return holds_of_number(table, word, told[0])


def holds_alone(table, word):
    """Tell whether a wish of one word is true of a table."""
    if word == "right":
        return is_right(table)
    if word == "tree":
        return is_tree(table)
    if word == "sum":
        return is_sum(table)
    if word == "line":
        return is_line(table)
    if word == "clock":
        return is_clock(table)
    return len(table) <= MOST_WITH_CROWD and crowd(table) is not None


def holds_of_pair(table, word, told):
    """Tell whether a wish is true of a pair of a table."""
    pair = told[0]
    if word == "needed":
        return is_right(table) and twins(table) == () and pair in needed_pairs(table)
    if word == "level":
        return level(table, pair) <= told[1]
    far = table.far(pair[0], pair[1])
    return far <= told[1] if word == "most" else far >= told[1]


def holds_of_piles(table, first, second, number):
    """Tell whether two tuples are piles for a table, one of which can become the other one at so small a cost."""
    if not is_pile(table, first) or not is_pile(table, second) or sum(first) != sum(second):
        return False
    return cost(table, first, second) <= number


def holds_of_number(table, word, number):
    """Tell whether a wish of a word and a number is true of a table."""
    if word == "spread":
        return spread(table) <= number
    if word == "trip":
        return shortest_length(table) <= number
    return len(exchanges(table)) >= number


def played(log):
    """Return the desk to which the changes of a log lead."""
    if not isinstance(log, tuple):
        raise InvalidLog(None)
    desk = Desk()
    for index, change in enumerate(log):
        if not is_change(change):
            raise InvalidLog(index)
        try:
            do_change(desk, change)
        except (WrongValue, WrongName, NotPossible):
            raise InvalidLog(index) from None
    return desk


def is_change(value):
    """Tell whether any value has the word and the size of a change of a log."""
    if not isinstance(value, tuple) or len(value) == 0 or not isinstance(value[0], str) or value[0] not in CHANGES:
        return False
    return len(value) == CHANGES[value[0]]


def do_change(desk, change):
    """Do a change of a log at a desk."""
    word, told = change[0], change[1]
    if word == "put":
        desk.put(told, Table.told(change[2]))
    elif word == "drop":
        desk.drop(told)
    elif word == "promise":
        desk.promise(told)
    else:
        desk.lift(told)
