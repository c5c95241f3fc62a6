"""What the tests share: tables and webs to try, wrong values, and a look at errors."""

import itertools
import random

from nearandfar.errors import InvalidParts
from nearandfar.tables import Table
from nearandfar.webs import Web

LANE = Table("abcd", (("ab", 1), ("ac", 3), ("ad", 6), ("bc", 2), ("bd", 5), ("cd", 3)))
FORK = Table.told("abcde\nab 3\nac 4\nad 5\nae 7\nbc 5\nbd 6\nbe 8\ncd 5\nce 7\nde 4")
SQUARE = Table.told("abcd\nab 1\nac 2\nad 1\nbc 1\nbd 2\ncd 1")
KNOT = Table.told("abcde\nab 2\nac 1\nad 1\nae 1\nbc 1\nbd 1\nbe 1\ncd 2\nce 2\nde 2")
CLOCK = Table.told("abcd\nab 2\nac 6\nad 6\nbc 6\nbd 6\ncd 4")
LOOSE = Table.told("abc\nab 9\nac 2\nbc 3")
TWIN = Table.told("abc\nab 0\nac 4\nbc 4")
NAMED = (LANE, FORK, SQUARE, KNOT, CLOCK, LOOSE, TWIN)


class Touchy:
    """A value that bears no comparison, no length, no truth, no hash and no text."""

    def _fail(self, *_):
        raise AssertionError("the value was not to be touched")

    __eq__ = __ne__ = __lt__ = __le__ = __gt__ = __ge__ = __len__ = __bool__ = __hash__ = _fail
    __iter__ = __contains__ = __getitem__ = __str__ = __int__ = __index__ = __add__ = __radd__ = _fail


class Likeable:
    """A value that says that it is equal to everything."""

    def __eq__(self, other):
        return True

    __hash__ = None


def odd_values():
    """Values that are neither a table, a web, things, a pair, a thing, a parting, a way nor a number allowed."""
    return [
        None, True, False, -1, 10 ** 50, -10 ** 90, "", " ", "A", "AB", "ba", "aa", "aab", "a b", "a,b", "ab ", " ab", "ab\n",
        "~", "\n", "abcdefgh" * 40, b"", b"a", b"ab", [], ["a", "b"], ["ab", 1], [("ab", 1)], {}, {"a": 1}, {"ab"},
        frozenset("ab"), range(3), object(), Touchy(), Likeable(), Table, Table.told, len, Ellipsis, NotImplemented,
        ((((((((("a",),),),),),),),),), 2 + 3j,
    ]


def far(table, one, two):
    """The distance of two things, by the distances alone."""
    lengths = dict(table.distances)
    return 0 if one == two else lengths["".join(sorted((one, two)))]


def lengths_of(table):
    """A dict of all distances, by pairs of things either way, and by twice the same thing."""
    lengths = {(thing, thing): 0 for thing in table.things}
    for (one, two), distance in table.distances:
        lengths[one, two] = lengths[two, one] = distance
    return lengths


def pairs(things):
    """All ascending pairs, in ascending order."""
    return [one + two for one, two in itertools.combinations(things, 2)]


def subsets(things):
    """All lots of things that are not empty, ascending strings."""
    return ["".join(lot) for size in range(1, len(things) + 1) for lot in itertools.combinations(things, size)]


def strings(things, least, most):
    """All strings of unlike things with least to most of them."""
    return ["".join(row) for size in range(least, most + 1) for row in itertools.permutations(things, size)]


def make(things, rule):
    """The table whose distances a function of two things tells."""
    return Table(things, tuple((pair, rule(pair[0], pair[1])) for pair in pairs(things)))


def closed_by_hand(table):
    """The table of least lengths, by shortening three by three until nothing becomes less."""
    lengths = lengths_of(table)
    while True:
        shorter = {
            (x, z): min(lengths[x, y] + lengths[y, z] for y in table.things) for x in table.things for z in table.things
        }
        if shorter == lengths:
            return make(table.things, lambda x, z: lengths[x, z])
        lengths = shorter


def is_right_by_hand(table):
    lengths = lengths_of(table)
    return all(lengths[x, z] <= lengths[x, y] + lengths[y, z] for x, y, z in itertools.permutations(table.things, 3))


def random_tables(seed, sizes, greatest, count):
    """Tables with any distances up to the greatest."""
    chance = random.Random(seed)
    made = []
    for size in sizes:
        for _ in range(count):
            things = "".join(sorted(chance.sample("abcdefghijklmnopqrstuvwxyz", size)))
            made.append(make(things, lambda x, y: chance.randint(0, greatest)))
    return made


def line_table(things, posts):
    """The table of things at these posts."""
    at = dict(zip(things, posts))
    return make(things, lambda x, y: abs(at[x] - at[y]))


def ring_table(things, steps):
    """The table of things round a ring with these steps behind each thing."""
    total = sum(steps)
    at = dict(zip(things, itertools.accumulate((0,) + tuple(steps[:-1]))))
    return make(things, lambda x, y: min(abs(at[x] - at[y]), total - abs(at[x] - at[y])))


def tree_web(seed, size, hidden):
    """A web without rings of so many things and hidden places; a place is tied to one ahead of it."""
    chance = random.Random(seed)
    things = "abcdefg"[:size]
    places = list(things[1:]) + list("ABCDEF"[:hidden])
    chance.shuffle(places)
    joined, ties = [things[0]], []
    for place in places:
        ties.append(("".join(sorted(place + chance.choice(joined))), chance.randint(1, 5)))
        joined.append(place)
    return Web(things, tuple(sorted(ties)))


def random_web(seed, size, hidden, more):
    """A tree web with some ties more, so that there are rings."""
    chance = random.Random(seed)
    web = tree_web(seed, size, hidden)
    ties = dict(web.ties)
    places = "ABCDEF"[:hidden] + web.things
    for _ in range(more):
        ties.setdefault("".join(sorted(chance.sample(places, 2))), chance.randint(1, 6))
    return Web(web.things, tuple(sorted(ties.items())))


def many_tables():
    """Tables of all kinds, with two to seven things, right and not right, with and without twins."""
    tables = list(NAMED)
    tables += random_tables(1, range(2, 8), 2, 4)
    tables += random_tables(2, range(2, 8), 9, 3)
    tables += random_tables(3, range(2, 8), 1000000, 2)
    tables += [closed_by_hand(table) for table in tables]
    tables += [line_table("bdfhkmz"[:len(row)], row) for row in POSTS]
    tables += [ring_table("abcd", steps) for steps in ((1, 1, 1, 1), (2, 3, 2, 3), (1, 4, 1, 4), (1, 2, 3, 4))]
    tables += [ring_table("abcdefg", (1,) * 7), ring_table("abcdef", (1,) * 6), ring_table("abcdef", (1, 2, 1, 2, 1, 2))]
    tables += [tree_web(seed, 2 + seed % 6, seed % 4).table() for seed in range(12)]
    tables += [CHAIN, make("abcdefg", lambda x, y: 0), make("abcdefg", lambda x, y: 1000000), make("xy", lambda x, y: 0)]
    return tables


POSTS = (
    (0, 4), (3, 0), (0, 0), (0, 1, 2), (5, 0, 2), (0, 0, 4), (4, 2, 2, 0), (0, 5, 5, 5), (7, 3, 0, 1, 3), (2, 2, 2, 2, 2, 0),
    (0, 1, 2, 3, 4, 5, 6), (6, 0, 5, 1, 4, 2, 3), (0, 1000000, 0, 1000000, 500000, 500000, 7), (1, 0, 0, 1, 1, 0, 0),
)
# The ends are told farther apart than the seven things in a row are together.
CHAIN = make("abcdefg", lambda x, y: 100 if (x, y) == ("a", "g") else ord(y) - ord(x))


def caught(call, *arguments, **named):
    """The error that a call raises, None if it raises none."""
    try:
        call(*arguments, **named)
    except Exception as error:
        return error
    return None


def expect(test, error, attributes, call, *arguments, **named):
    """Fail if a call does not raise just this error with just these attributes."""
    raised = caught(call, *arguments, **named)
    test.assertIs(error, raised.__class__, f"{call} {named}: {raised!r}")
    test.assertEqual(sorted(attributes), sorted(vars(raised)))
    for name, value in attributes.items():
        if name == "given" and not isinstance(value, (int, str, tuple)):
            test.assertIs(value, raised.given)
        else:
            test.assertEqual((value, value.__class__), (vars(raised)[name], vars(raised)[name].__class__))


def expect_in_order(test, call, right, wrong):
    """Look at each argument by itself, and with the ones behind it right or wrong, by position and by name.

    right is a dict of right arguments in the order of the signature; wrong is a dict, by the names of
    those for which an error is told, of lists of triples (WRONG VALUE, ERROR, ATTRIBUTES).
    """
    names = list(right)
    for at, name in enumerate(names):
        for value, error, attributes in wrong.get(name, []):
            told = dict(right)
            told[name] = value
            spoilt = dict(told)
            for later in names[at + 1:]:
                if wrong.get(later):
                    spoilt[later] = wrong[later][0][0]
            for arguments in (told, spoilt):
                copies = {name: copied(passed) for name, passed in arguments.items()}
                expect(test, error, attributes, call, *arguments.values())
                expect(test, error, attributes, call, **arguments)
                test.assertTrue(all(is_like(arguments[name], copies[name]) for name in copies))


def copied(value):
    """A copy of a list, a dict or a set, anything else itself."""
    return value.copy() if isinstance(value, (list, dict, set)) else value


def is_like(value, copy):
    """Whether a value is as it was when it was copied; what is no list, dict or set cannot change."""
    return value is copy or isinstance(value, (list, dict, set)) and value == copy


def given(error, values):
    """Triples for expect_in_order of an error that tells what was given."""
    return [(value, error, {"given": value}) for value in values]


def no_tables():
    return odd_values() + ["abc", "ab", LANE.distances, Web("ab", (("ab", 1),)), str(LANE)]


def no_things_of(things):
    """Values that are no single thing of a table."""
    others = [letter for letter in "abcdefghijklmnopqrstuvwxyz" if letter not in things]
    return odd_values() + [things, things[:2], things[0].upper(), others[0], others[-1], (things[0],), 1]


def no_pairs_of(things):
    """Values that are no pair of a table."""
    others = [letter for letter in "abcdefghijklmnopqrstuvwxyz" if letter not in things]
    return odd_values() + [
        things[0], things[1] + things[0], things[0] * 2, things[:2] + others[-1], "".join(sorted(things[0] + others[0])),
        things[:2].upper(), (things[0], things[1]), [things[0], things[1]], things[:2] + " ", 3,
    ]


def no_partings_of(things):
    """Values that are no parting of a table's things."""
    return odd_values() + [
        things[0], things, things[:2], things[1] * 2, things[1] + "~", things[:0:-1] if len(things) > 2 else things[::-1],
        (things[1],), [things[1]], things[1].upper(), 1,
    ]


def wrong_parts(good, most, wrong_lots=("a", "ab", "f", "", "dc", "abcde", ("b",), None, "B")):
    """Triples for expect_in_order of what is no tuple of pairs (PARTING, NUMBER) for abcde; good is one, from b on."""
    elements = odd_values() + [(lot, 1) for lot in wrong_lots] + [
        good[0], (), ("b",), ("b", 1, 1), ["b", 1], ("b", "1"), ("b", 0), ("b", -1), ("b", most + 1), ("b", True), ("b", None),
        ("b", (1,)), ("cd", 0), ("cd", True), ("cd", most + 1), ["cd", 1], ("cd",), ("cd", 1, 1), "cd", (Likeable(), 1), (Touchy(), 1),
        ("cd", Likeable()), ("cd", Touchy()),
    ]
    whole = [value for value in odd_values() if not isinstance(value, tuple)] + [list(good), {good[0]: 1}, good[0][0]]
    rows = [(value, InvalidParts, {"index": None}) for value in whole]
    rows += [(good[0], InvalidParts, {"index": 0}), (((good[0], ("d", 2), ("c", 2))), InvalidParts, {"index": 2})]
    rows += [((good[0], element, "z"), InvalidParts, {"index": 1}) for element in elements]
    rows += [((element, good[0]), InvalidParts, {"index": 0}) for element in elements if element is not good[0]]
    return rows
