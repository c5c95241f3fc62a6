"""Rests: what of a table is left when the clear partings are taken off."""

from itertools import combinations

from nearandfar.basics import (
    MOST_DOUBLED,
    check_pair,
    check_parting,
    check_parts,
    check_things,
    is_integer_within,
    is_parted,
    lots_of,
    pairs_of,
    parted_sums,
)
from nearandfar.errors import InvalidNumber
from nearandfar.partings import clear, do_clash, strength
from nearandfar.tables import check_table, table_of, table_within
from nearandfar.trees import table_of_parts


def share(table, pair):
    """Return the sum of the strengths of all clear partings that part a pair."""
    check_table(table)
    check_pair(table.things, pair)
    return parted_sums(table.things, clear(table))[pair]


def rest(table, pair):
    """Return twice the distance of a pair less its share."""
    check_table(table)
    check_pair(table.things, pair)
    return rests_of(table)[pair]


def rests_of(table):
    """Return a dict of the rests of all pairs."""
    shares = parted_sums(table.things, clear(table))
    return {pair: 2 * far - shares[pair] for pair, far in table.distances}


def rests(table):
    """Return the ascending tuple of pairs (PAIR, REST) of all pairs."""
    check_table(table)
    found = rests_of(table)
    return tuple([(pair, found[pair]) for pair in pairs_of(table.things)])


def is_sum(table):
    """Tell whether all rests are 0."""
    return all([number == 0 for _, number in rests(table)])


def bare(table):
    """Return the table of the rests."""
    check_table(table)
    return table_within(table.things, rests_of(table))


def taken(table, parting, by):
    """Return the table in which a number is taken from each distance that a parting parts."""
    check_table(table)
    check_parting(table.things, parting)
    if not is_integer_within(by, 0, strength(table, parting) // 2):
        raise InvalidNumber(by)
    left = {pair: far - by if is_parted(parting, pair) else far for pair, far in table.distances}
    return table_of(table.things, left)


def made(things, parts):
    """Return the table that is the sum of partings, no three of which clash."""
    check_things(things)
    check_parts(things, parts, lots_of(things[1:], 1), MOST_DOUBLED, clashes_with_none)
    return table_of_parts(things, parts)


def clashes_with_none(things, ahead, lot):
    """Tell whether a parting clashes with no two of those ahead of it."""
    return not any([do_clash(things, (one, other, lot)) for one, other in combinations(ahead, 2)])
