"""Partings of the things into two lots, and which of them are clear."""

from itertools import combinations

from nearandfar.basics import check_pair, check_parting, check_thing, do_cross, is_parted, lots_of, other_lot, twos_of
from nearandfar.tables import check_table


def partings(table):
    """Return the ascending tuple of all partings of the things."""
    check_table(table)
    return tuple(lots_of(table.things[1:], 1))


def parts(table, parting, pair):
    """Tell whether a parting parts a pair."""
    check_table(table)
    check_parting(table.things, parting)
    check_pair(table.things, pair)
    return is_parted(parting, pair)


def cross(table, parting, other_parting):
    """Tell whether each lot of the one parting has a thing in common with each lot of the other one."""
    check_table(table)
    check_parting(table.things, parting)
    check_parting(table.things, other_parting)
    return do_cross(table.things, parting, other_parting)


def clash(table, parting, other_parting, third_parting):
    """Tell whether the three partings part some four things two from two in the three unlike manners."""
    check_table(table)
    check_parting(table.things, parting)
    check_parting(table.things, other_parting)
    check_parting(table.things, third_parting)
    return do_clash(table.things, (parting, other_parting, third_parting))


def do_clash(things, three):
    """Tell whether three partings of these things part some four of them two from two in the three unlike manners."""
    return any([partners(three, four) == list(four[1:]) for four in combinations(things, 4)])


def partners(three, four):
    """List, in ascending order, the things that partings leave alone beside the first one of four things."""
    return sorted([partner(parting, four) for parting in three])


def partner(parting, four):
    """Return the one thing of four that is in a lot with the first one; empty if it is not just one."""
    beside = [thing for thing in four[1:] if not is_parted(parting, four[0] + thing)]
    return beside[0] if len(beside) == 1 else ""


def room(table, thing, other, third, fourth):
    """Return the room of the first two of these things against the two others."""
    check_table(table)
    check_thing(table.things, thing)
    check_thing(table.things, other)
    check_thing(table.things, third)
    check_thing(table.things, fourth)
    return room_of(table, (thing, other), (third, fourth))


def room_of(table, two, others):
    """Return the room of two things, perhaps the same, against two others."""
    within = table.far(two[0], two[1]) + table.far(others[0], others[1])
    over = table.far(two[0], others[0]) + table.far(two[1], others[1])
    crosswise = table.far(two[0], others[1]) + table.far(two[1], others[0])
    return max(within, over, crosswise) - within


def strength(table, parting):
    """Return the least room of two things of the one lot against two of the other one."""
    check_table(table)
    check_parting(table.things, parting)
    twos = twos_of(other_lot(table.things, parting))
    return min([room_of(table, two, others) for two in twos for others in twos_of(parting)])


def clear(table):
    """Return the ascending tuple of pairs (PARTING, STRENGTH) of all clear partings."""
    strengths = [(parting, strength(table, parting)) for parting in partings(table)]
    return tuple([(parting, number) for parting, number in strengths if number > 0])


def shape(table):
    """Return the ascending tuple of all clear partings."""
    return tuple([parting for parting, _ in clear(table)])
