"""Consoles: a board that is asked and changed by lines."""

from nearandfar.basics import LETTERS, is_written_number
from nearandfar.boards import Board, Token
from nearandfar.caps import radius
from nearandfar.clocks import groups, level, levels
from nearandfar.crowds import crowd
from nearandfar.desks import holds_alone
from nearandfar.errors import InvalidCommand
from nearandfar.exchanges import classes, exchanges
from nearandfar.limits import LEAST_THINGS, MOST_THINGS
from nearandfar.lines import posts
from nearandfar.moves import best_places, cost
from nearandfar.needed import needed_pairs
from nearandfar.partings import clear, strength
from nearandfar.rounds import round_orders
from nearandfar.spanning import least_sum
from nearandfar.trees import pieces
from nearandfar.trips import shortest_trips
from nearandfar.ways import between, least_way

# What stands behind the word of a command; a row goes to the end of the line.
FORMS = {
    "put": ("letter", "row"),
    "take": ("letter",),
    "change": ("pair", "number"),
    "close": (),
    "strip": ("parting", "number"),
    "undo": (),
    "right": (),
    "tree": (),
    "sum": (),
    "line": (),
    "clock": (),
    "crowd": (),
    "far": ("letter", "letter"),
    "way": ("letter", "letter"),
    "between": ("letter", "letter"),
    "needed": (),
    "orders": (),
    "trips": (),
    "levels": (),
    "groups": ("number",),
    "classes": (),
    "posts": (),
    "pieces": (),
    "clear": (),
    "least": (),
    "strength": ("parting",),
    "level": ("pair",),
    "cost": ("pile", "pile"),
    "places": ("pile",),
    "radius": (),
    "exchanges": (),
}
DEEDS = ("put", "take", "change", "close", "strip", "undo")
KINDS = ("right", "tree", "sum", "line", "clock", "crowd")
SINGLE = ("far", "way", "least", "strength", "level", "cost", "radius", "exchanges")
MOST_LETTERS = {"letter": 1, "pair": 2, "parting": 6}


class Console:
    """A board by lines."""

    def __init__(self, table):
        self._board = Board(table)
        self._token = Token()

    @property
    def board(self):
        """The board."""
        return self._board

    def __eq__(self, other):
        return isinstance(other, Console) and self._token == other._token

    def say(self, command):
        """Do a command, and return the answer."""
        word, told = read_command(command)
        if word in DEEDS:
            do_deed(self._board, word, told)
            return "ok"
        table = self._board.now
        if word in KINDS:
            return "yes" if is_so(table, word) else "no"
        if word in SINGLE:
            return str(told_of(table, word, told))
        return " ".join([str(one) for one in listed(table, word, told)]) or "none"


def read_command(command):
    """Return the first word of a command, and the list of what the others tell."""
    if not isinstance(command, str):
        raise InvalidCommand(command)
    word, *others = command.split(" ")
    if word not in FORMS:
        raise InvalidCommand(command)
    kinds = FORMS[word]
    if "row" in kinds:
        others = others[:1] + [" ".join(others[1:])]
    if len(others) != len(kinds):
        raise InvalidCommand(command)
    told = [read_part(kind, other) for kind, other in zip(kinds, others)]
    if None in told:
        raise InvalidCommand(command)
    return word, told


def read_part(kind, word):
    """Return what a word of a command tells; None if it is not of this kind."""
    if kind == "number":
        return int(word) if is_written_number(word) else None
    if kind == "row":
        return read_numbers(word.split(" "))
    if kind == "pile":
        return read_numbers(word.split(","))
    most = MOST_LETTERS[kind]
    least = 1 if kind == "parting" else most
    return word if least <= len(word) <= most and all([sign in LETTERS for sign in word]) else None


def read_numbers(words):
    """Return the tuple of two to seven numbers; None if the words are not that."""
    if not LEAST_THINGS <= len(words) <= MOST_THINGS or not all([is_written_number(word) for word in words]):
        return None
    return tuple([int(word) for word in words])


def do_deed(board, word, told):
    """Change a board."""
    if word == "put":
        board.put(told[0], told[1])
    elif word == "take":
        board.take(told[0])
    elif word == "change":
        board.change(told[0], told[1])
    elif word == "close":
        board.close()
    elif word == "strip":
        board.strip(told[0], told[1])
    else:
        board.undo()


def is_so(table, word):
    """Tell whether a table is of the kind that a word asks for."""
    if word == "crowd":
        return crowd(table) is not None
    return holds_alone(table, word)


def listed(table, word, told):
    """Return the tuple, string or list of what a word asks for."""
    if word == "between":
        return between(table, told[0], told[1])
    if word == "needed":
        return needed_pairs(table)
    if word == "orders":
        return round_orders(table)
    if word == "trips":
        return shortest_trips(table)
    if word == "levels":
        return levels(table)
    if word == "groups":
        return groups(table, told[0])
    if word == "classes":
        return classes(table)
    if word == "posts":
        return posts(table) or ()
    if word == "places":
        return best_places(table, told[0])
    parts = pieces(table) if word == "pieces" else clear(table)
    return [f"{parting}:{number}" for parting, number in parts]


def told_of(table, word, told):
    """Return the number, or the string, that a word asks for."""
    if word == "far":
        return table.far(told[0], told[1])
    if word == "way":
        return least_way(table, told[0], told[1])
    if word == "least":
        return least_sum(table)
    if word == "strength":
        return strength(table, told[0])
    if word == "level":
        return level(table, told[0])
    if word == "cost":
        return cost(table, told[0], told[1])
    if word == "exchanges":
        return len(exchanges(table))
    top, bottom = radius(table)
    return f"{top}/{bottom}"
