"""Exchanges: renamings that leave all distances as they are, and tables that are alike."""

from itertools import combinations, permutations

from nearandfar.basics import both_ways, check_thing
from nearandfar.errors import InvalidRenaming
from nearandfar.tables import ascending, check_table


def check_renaming(things, renaming):
    """Raise InvalidRenaming for what is no string of all these things."""
    if not isinstance(renaming, str) or len(renaming) != len(things) or ascending(renaming) != things:
        raise InvalidRenaming(renaming)


def is_exchange(table, renaming):
    """Tell whether all distances stay by a renaming."""
    check_table(table)
    check_renaming(table.things, renaming)
    lengths = both_ways(table.things, table.distances)
    new = {thing: letter for thing, letter in zip(table.things, renaming)}
    return all([lengths[new[pair[0]] + new[pair[1]]] == far for pair, far in table.distances])


def tellings(table, other_table):
    """List, ascending, the strings of the other table's things by which all distances of the things agree."""
    if len(table) != len(other_table):
        return []
    lengths = both_ways(table.things, table.distances)
    other_lengths = both_ways(other_table.things, other_table.distances)
    rows = [""]
    for at, thing in enumerate(table.things):
        here = [lengths[ahead + thing] for ahead in table.things[:at]]
        rows = [row + new for row in rows for new in other_table.things if goes_on(other_lengths, row, new, here)]
    return rows


def goes_on(lengths, row, new, distances):
    """Tell whether a new thing behind a string of others has these distances from them."""
    return new not in row and [lengths[ahead + new] for ahead in row] == distances


def exchanges(table):
    """Return the ascending tuple of all exchanges."""
    check_table(table)
    return tuple(tellings(table, table))


def behind(table, renaming, later):
    """Return the renaming that does the first one and then the second one."""
    check_table(table)
    check_renaming(table.things, renaming)
    check_renaming(table.things, later)
    return "".join([later[table.things.index(letter)] for letter in renaming])


def taken_back(table, renaming):
    """Return the renaming that takes a renaming back."""
    check_table(table)
    check_renaming(table.things, renaming)
    return "".join([table.things[renaming.index(thing)] for thing in table.things])


def classes(table):
    """Return the ascending tuple of the classes of things."""
    rows = exchanges(table)
    found = {}
    for at in range(len(table)):
        met = {row[at]: True for row in rows}
        found["".join(sorted(met))] = True
    return tuple(sorted(found))


def pair_classes(table):
    """Return the ascending tuple of the classes of pairs, ascending tuples."""
    rows = exchanges(table)
    found = {}
    for first, second in combinations(range(len(table)), 2):
        met = {ascending(row[first] + row[second]): True for row in rows}
        found[tuple(sorted(met))] = True
    return tuple(sorted(found))


def leaving(table, thing):
    """Return the ascending tuple of the exchanges that leave a thing."""
    check_table(table)
    check_thing(table.things, thing)
    at = table.things.index(thing)
    return tuple([row for row in exchanges(table) if row[at] == thing])


def form(table):
    """Return the least tuple of distances of all renamings of the table."""
    check_table(table)
    lengths = both_ways(table.things, table.distances)
    spots = list(combinations(range(len(table)), 2))
    return min([tuple([lengths[row[x] + row[y]] for x, y in spots]) for row in permutations(table.things)])


def are_alike(table, other_table):
    """Tell whether two tables are alike."""
    return told_by(table, other_table) is not None


def told_by(table, other_table):
    """Return the first string of the other table's things by which all distances agree; None if there is none."""
    check_table(table)
    check_table(other_table)
    rows = tellings(table, other_table)
    return rows[0] if rows else None
