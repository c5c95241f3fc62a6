"""Ways: strings of things, their lengths, and the closed table."""

from itertools import permutations

from nearandfar.basics import both_ways, check_thing, least_lengths
from nearandfar.errors import HasTwins, InvalidWay, NotRight
from nearandfar.tables import check_table, table_of


def way_length(table, way):
    """Return the length of a way."""
    check_table(table)
    if not is_way(table, way):
        raise InvalidWay(way)
    return length_of(table, way)


def is_way(table, value):
    """Tell whether any value is a way of the table's things."""
    if not isinstance(value, str) or len(value) < 2:
        return False
    known = all([thing in table.things for thing in value])
    return known and all([here != there for here, there in zip(value, value[1:])])


def length_of(table, way):
    """Return the sum of the distances of neighbours in a string of things, perhaps of one alone."""
    return sum([table.far(here, there) for here, there in zip(way, way[1:])])


def is_right(table):
    """Tell whether no distance is greater than the length of a way."""
    return long_three(table) is None


def long_three(table):
    """Return the first string x y z of unlike things in which xz is greater than xy and yz, or None."""
    check_table(table)
    things = table.things
    for start, middle, end in permutations(things, 3):
        if table.far(start, end) > table.far(start, middle) + table.far(middle, end):
            return start + middle + end
    return None


def check_right(table):
    """Raise NotRight for a table that is not right."""
    three = long_three(table)
    if three is not None:
        raise NotRight(three)


def closed(table):
    """Return the table of the least lengths of ways."""
    check_table(table)
    things = table.things
    return table_of(things, least_lengths(things, both_ways(things, table.distances)))


def plain_ways(things, thing, other):
    """List all strings without a thing twice from the one thing to the other one."""
    if thing == other:
        return [thing]
    rest = [middle for middle in things if middle not in (thing, other)]
    rows = ["".join(row) for size in range(len(rest) + 1) for row in permutations(rest, size)]
    return [thing + row + other for row in rows]


def least_way(table, thing, other):
    """Return the first shortest way without a thing twice; for the same thing the thing alone."""
    check_table(table)
    check_thing(table.things, thing)
    check_thing(table.things, other)
    return min(plain_ways(table.things, thing, other), key=lambda way: length_of(table, way))


def count_ways(table, thing, other):
    """Return how many shortest ways without a thing twice there are, 1 for the same thing."""
    shortest = length_of(table, least_way(table, thing, other))
    return len([way for way in plain_ways(table.things, thing, other) if length_of(table, way) == shortest])


def lies_between(table, middle, thing, other):
    """Tell whether one thing is between two others."""
    if middle in (thing, other):
        return False
    return table.far(thing, middle) + table.far(middle, other) == table.far(thing, other)


def between(table, thing, other):
    """Return the ascending string of all things between two things; empty for the same thing."""
    check_table(table)
    check_thing(table.things, thing)
    check_thing(table.things, other)
    if thing == other:
        return ""
    return "".join([middle for middle in table.things if lies_between(table, middle, thing, other)])


def twins(table):
    """Return the ascending tuple of all pairs with the distance 0."""
    check_table(table)
    return tuple([pair for pair, far in table.distances if far == 0])


def check_no_twins(table):
    """Raise HasTwins for a table with twins."""
    pairs = twins(table)
    if pairs != ():
        raise HasTwins(pairs[0])


def spread(table):
    """Return the greatest distance."""
    check_table(table)
    return max([far for _, far in table.distances])
