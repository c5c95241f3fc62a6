"""Webs: things and hidden places, tied together, and the roads over their ties."""

from nearandfar.basics import (
    both_ways,
    check_pair,
    check_things,
    is_integer_within,
    is_pair,
    least_lengths,
    pairs_of,
    read_rows,
    written,
)
from nearandfar.errors import (
    InvalidText,
    InvalidTie,
    InvalidTies,
    NotAWeb,
    NotJoined,
    NotPossible,
    TooFar,
    WrongValue,
)
from nearandfar.limits import MOST_DISTANCE
from nearandfar.tables import table_of

HIDDEN_LETTERS = "ABCDEFGHIJKLMNOPQRSTUVWXYZ"
MOST_HIDDEN = 6
MOST_LENGTH = 1000000


class Web:
    """Things and hidden places that hang together by ties; it never changes."""

    def __init__(self, things, ties):
        check_things(things)
        check_ties(things, ties)
        hidden = hidden_of(ties)
        least = least_lengths(hidden + things, both_ways(hidden + things, ties))
        check_joined(things, hidden, least)
        check_near(things, least)
        self._things = things
        self._ties = ties
        self._hidden = hidden
        self._table = table_of(things, least)

    @classmethod
    def told(cls, text):
        """Return the web with this text."""
        things, ties = read_rows(text, None)
        try:
            return cls(things, ties)
        except (WrongValue, NotPossible):
            raise InvalidText(text) from None

    @property
    def things(self):
        """The ascending string of the things."""
        return self._things

    @property
    def ties(self):
        """The tuple of pairs (PAIR, LENGTH), ascending."""
        return self._ties

    @property
    def hidden(self):
        """The ascending string of the hidden places."""
        return self._hidden

    def __str__(self):
        return str(written(self._things, self._ties))

    def __len__(self):
        return len(self._ties)

    def __eq__(self, other):
        return isinstance(other, Web) and self._things == other._things and self._ties == other._ties

    def table(self):
        """Return the table of the lengths of shortest roads between things."""
        return self._table

    def without(self, tie):
        """Return the web without the tie that has this PAIR."""
        check_tie(self, tie)
        return Web(self._things, tuple([(pair, length) for pair, length in self._ties if pair != tie]))


def is_tie(value, things):
    """Tell whether any value is a tie over these things and hidden places."""
    if not isinstance(value, tuple) or len(value) != 2:
        return False
    return is_pair(value[0], HIDDEN_LETTERS + things) and is_integer_within(value[1], 1, MOST_LENGTH)


def hidden_of(ties):
    """Return the ascending string of the hidden places of ties."""
    tied = "".join([pair for pair, _ in ties])
    return "".join([letter for letter in HIDDEN_LETTERS if letter in tied])


def check_ties(things, ties):
    """Raise InvalidTies for what is no ascending tuple of ties, or has too many hidden places."""
    if not isinstance(ties, tuple):
        raise InvalidTies(None)
    ahead = ""
    for index, tie in enumerate(ties):
        if not is_tie(tie, things) or tie[0] <= ahead or len(hidden_of(ties[:index + 1])) > MOST_HIDDEN:
            raise InvalidTies(index)
        ahead = tie[0]


def check_joined(things, hidden, least):
    """Raise NotJoined with the first place, hidden ones ahead, to which no steps lead from the first thing."""
    for place in hidden + things:
        if things[0] + place not in least:
            raise NotJoined(place)


def check_near(things, least):
    """Raise TooFar with the first pair of things whose shortest road is too long."""
    for pair in pairs_of(things):
        if least[pair] > MOST_DISTANCE:
            raise TooFar(pair)


def check_web(web):
    """Raise NotAWeb for what is no Web."""
    if not isinstance(web, Web):
        raise NotAWeb(web)


def check_tie(web, tie):
    """Raise InvalidTie for what is no PAIR of a tie of the web."""
    if not isinstance(tie, str) or tie not in [pair for pair, _ in web.ties]:
        raise InvalidTie(tie)


def shortest_roads(web, pair):
    """Return the ascending tuple of all shortest roads from the first thing of a pair to the second one."""
    check_web(web)
    check_pair(web.things, pair)
    places = web.hidden + web.things
    steps = both_ways(places, web.ties)
    least = least_lengths(places, steps)
    finished = []
    growing = [pair[0]]
    # All ties are longer than 0, so each step comes nearer to the end, and no place comes twice.
    while growing:
        longer = [road + place for road in growing for place in places if leads(steps, least, road[-1], place, pair[1])]
        finished.extend([road for road in longer if road[-1] == pair[1]])
        growing = [road for road in longer if road[-1] != pair[1]]
    return tuple(sorted(finished))


def leads(steps, least, here, place, end):
    """Tell whether a shortest road from here to the end can go on to another place."""
    step = here + place
    return here != place and step in steps and steps[step] + least[place + end] == least[here + end]


def users(web, tie):
    """Return the ascending tuple of the pairs of things all whose shortest roads go over a tie."""
    check_web(web)
    check_tie(web, tie)
    return tuple([pair for pair in pairs_of(web.things) if is_used(web, tie, pair)])


def is_used(web, tie, pair):
    """Tell whether each shortest road between a pair of things goes over a tie, this way or that."""
    return all([tie in road or tie[::-1] in road for road in shortest_roads(web, pair)])


def needless_ties(web):
    """Return the ascending tuple of the PAIRs of all ties, each by itself, without which the table is the same."""
    check_web(web)
    return tuple([pair for pair, _ in web.ties if is_needless(web, pair)])


def is_needless(web, tie):
    """Tell whether without this tie there is a web with the same table."""
    try:
        rest = web.without(tie)
    except NotPossible:
        return False
    return rest.table() == web.table()
