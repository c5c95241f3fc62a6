"""Trees: firm partings, the own tree of a table, and the places and ways of a tree of which a table comes."""

from itertools import product

from nearandfar.basics import (
    MOST_DOUBLED,
    both_ways,
    check_parting,
    check_parts,
    check_thing,
    check_things,
    do_cross,
    is_lot,
    lots_of,
    other_lot,
    parted_sums,
    twos_of,
)
from nearandfar.errors import Halves, NoTree
from nearandfar.tables import check_table, table_within


def firmness(table, parting):
    """Return the firmness of a parting, 0 if it is below 0."""
    check_table(table)
    check_parting(table.things, parting)
    lengths = both_ways(table.things, table.distances)
    twos = twos_of(other_lot(table.things, parting))
    return max(0, min([gain_of(lengths, two, others) for two in twos for others in twos_of(parting)]))


def gain_of(lengths, two, others):
    """Return by how much the lesser sum of distances over is greater than the sum of the distances within."""
    over = lengths[two[0] + others[0]] + lengths[two[1] + others[1]]
    crosswise = lengths[two[0] + others[1]] + lengths[two[1] + others[0]]
    return min(over, crosswise) - lengths[two[0] + two[1]] - lengths[others[0] + others[1]]


def firm(table):
    """Return the ascending tuple of pairs (PARTING, FIRMNESS) of all firm partings."""
    check_table(table)
    found = [(parting, firmness(table, parting)) for parting in lots_of(table.things[1:], 1)]
    return tuple([(parting, number) for parting, number in found if number > 0])


def odd_four(table):
    """Return the first odd four, None if all fours are even."""
    check_table(table)
    lengths = both_ways(table.things, table.distances)
    twos = twos_of(table.things)
    for one, two in product(twos, twos):
        if one[1] <= two[0] and is_odd(lengths, one + two):
            return "".join(one + two)
    return None


def is_odd(lengths, four):
    """Tell whether the two greatest sums of four things, perhaps the same, are not equal."""
    first, second, third, fourth = four
    sums = sorted([
        lengths[first + second] + lengths[third + fourth],
        lengths[first + third] + lengths[second + fourth],
        lengths[first + fourth] + lengths[second + third],
    ])
    return sums[1] != sums[2]


def is_tree(table):
    """Tell whether the table comes of a tree."""
    return odd_four(table) is None


def own(table):
    """Return the table with the doubled distances of the own tree."""
    check_table(table)
    return table_within(table.things, parted_sums(table.things, firm(table)))


def check_tree(table):
    """Raise NoTree for a table that does not come of a tree."""
    if not is_tree(table):
        raise NoTree()


def pieces(table):
    """Return the ascending tuple of pairs (PARTING, DOUBLED LENGTH) of the ties of the tree."""
    check_table(table)
    check_tree(table)
    return firm(table)


def tree_length(table):
    """Return the sum of the doubled lengths of all ties."""
    return sum([number for _, number in pieces(table)])


def place_amid(things, partings, three):
    """Return the place at which the ways between three things, perhaps the same, meet.

    A place is a tuple of lots, for each tie the one that lies on the same side of the tie as the place.
    """
    place = []
    for parting in partings:
        most_in = len([thing for thing in three if thing in parting]) >= 2
        place.append(parting if most_in else other_lot(things, parting))
    return tuple(place)


def places_of(things, partings):
    """List all places of the tree whose ties are these partings."""
    found = []
    # At each place a thing lies, or three ties meet: so it is amid three things.
    for three in product(things, things, things):
        place = place_amid(things, partings, three)
        if place not in found:
            found.append(place)
    return found


def here_at(things, place):
    """Return the ascending string of the things that lie at a place."""
    return "".join([thing for thing in things if all([thing in lot for lot in place])])


def branches_at(things, place):
    """Return the ascending tuple of the lots beyond the ties of a place."""
    beyond = [other_lot(things, lot) for lot in place]
    nearest = [lot for lot in beyond if not any([lot != other and is_lot(lot, other) for other in beyond])]
    return tuple(sorted(nearest))


def places(table):
    """Return the ascending tuple of pairs (HERE, BRANCHES) of all places of the tree."""
    partings = [parting for parting, _ in pieces(table)]
    things = table.things
    found = places_of(things, partings)
    return tuple(sorted([(here_at(things, place), branches_at(things, place)) for place in found]))


def path(table, thing, other):
    """Return the tuple of HERE for all places on the way from the one thing to the other one."""
    check_table(table)
    check_thing(table.things, thing)
    check_thing(table.things, other)
    partings = [parting for parting, _ in pieces(table)]
    start = place_amid(table.things, partings, thing * 3)
    end = place_amid(table.things, partings, other * 3)
    passed = [place for place in places_of(table.things, partings) if is_on_way(place, start, end)]
    in_turn = sorted(passed, key=lambda stop: ties_between(stop, start))
    return tuple([here_at(table.things, place) for place in in_turn])


def is_on_way(place, start, end):
    """Tell whether a place is on the way between two others: no tie has both of these on its other side."""
    return all([lot in (first, last) for lot, first, last in zip(place, start, end)])


def ties_between(place, start):
    """Return the number of ties on the way between two places."""
    return len([lot for lot, first in zip(place, start) if lot != first])


def meeting(table, thing, other, third):
    """Return the doubled distances from three things to the place where their ways meet."""
    check_table(table)
    check_thing(table.things, thing)
    check_thing(table.things, other)
    check_thing(table.things, third)
    check_tree(table)
    near, far, across = table.far(thing, other), table.far(thing, third), table.far(other, third)
    return near + far - across, near + across - far, far + across - near


def from_pieces(things, parts):
    """Return the table of the tree with these ties."""
    check_things(things)
    check_parts(things, parts, lots_of(things[1:], 1), MOST_DOUBLED, crosses_none)
    return table_of_parts(things, parts)


def crosses_none(things, ahead, lot):
    """Tell whether a parting crosses none of those ahead of it."""
    return not any([do_cross(things, other, lot) for other in ahead])


def table_of_parts(things, parts):
    """Return the table whose doubled distances are the sums of the numbers of the partings that part the pair."""
    sums = parted_sums(things, parts)
    for pair in sums:
        if sums[pair] % 2 == 1:
            raise Halves(pair)
    return table_within(things, {pair: sums[pair] // 2 for pair in sums})
