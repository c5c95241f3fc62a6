"""Clocks: levels of pairs, groups of things at a level, and tables that are their own levels."""

from itertools import combinations

from nearandfar.basics import both_ways, check_pair, is_lot, other_lot
from nearandfar.errors import InvalidNumber, NotAClock
from nearandfar.tables import check_table, is_distance, table_of
from nearandfar.ways import check_no_twins


def least_steps(places, steps):
    """Return a dict of the least numbers such that some steps, none of them greater, join the two places."""
    least = {step: steps[step] for step in steps}
    for middle in places:
        for start in places:
            for end in places:
                ahead, behind, whole = start + middle, middle + end, start + end
                if ahead in least and behind in least:
                    greatest = max(least[ahead], least[behind])
                    least[whole] = min(greatest, least.get(whole, greatest))
    return least


def levels_of(table):
    """Return a dict of the levels of all two things, either way, and of 0 for each thing by itself."""
    return least_steps(table.things, both_ways(table.things, table.distances))


def level(table, pair):
    """Return the level of a pair."""
    check_table(table)
    check_pair(table.things, pair)
    return levels_of(table)[pair]


def clocked(table):
    """Return the table of all levels."""
    check_table(table)
    return table_of(table.things, levels_of(table))


def is_clock(table):
    """Tell whether the table is a clock."""
    return bad_three(table) is None


def bad_three(table):
    """Return the first ascending string of three things whose two greatest distances are not alike, or None."""
    check_table(table)
    things = table.things
    for first, second, third in combinations(things, 3):
        distances = sorted([table.far(first, second), table.far(first, third), table.far(second, third)])
        if distances[1] != distances[2]:
            return first + second + third
    return None


def levels(table):
    """Return the ascending tuple of all levels of pairs, each once."""
    distances = clocked(table).distances
    return tuple(sorted({number: pair for pair, number in distances}))


def groups(table, number):
    """Return the ascending tuple of the groups at a number."""
    check_table(table)
    if not is_distance(number):
        raise InvalidNumber(number)
    return groups_at(table.things, levels_of(table), number)


def groups_at(things, found, number):
    """Return the ascending tuple of the groups at a number, by a dict of all levels."""
    lots = ["".join([other for other in things if found[thing + other] <= number]) for thing in things]
    return tuple([lot for thing, lot in zip(things, lots) if lot[0] == thing])


def clusters(table):
    """Return the ascending tuple of pairs (CLUSTER, LEVEL) of all clusters."""
    check_table(table)
    found = levels_of(table)
    least = {}
    for number in levels(table):
        for lot in groups_at(table.things, found, number):
            if len(lot) > 1:
                least.setdefault(lot, number)
    return tuple(sorted(least.items()))


def clock_pieces(table):
    """Return the ascending tuple of pairs (PARTING, NUMBER) of the tree of a clock without twins."""
    three = bad_three(table)
    if three is not None:
        raise NotAClock(three)
    check_no_twins(table)
    whole = clusters(table)
    numbers = {}
    for lot, own_level in whole + tuple([(thing, 0) for thing in table.things]):
        if lot != table.things:
            parting = other_lot(table.things, lot) if table.things[0] in lot else lot
            numbers[parting] = numbers.get(parting, 0) + level_around(whole, lot) - own_level
    return tuple(sorted(numbers.items()))


def level_around(whole, lot):
    """Return the level of the next cluster around a lot of things."""
    return min([number for cluster, number in whole if cluster != lot and is_lot(lot, cluster)])
