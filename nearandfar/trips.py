"""Trips: going round all things, and how often one goes over a parting."""

from nearandfar.basics import LETTERS, check_parting, is_lot, is_parted
from nearandfar.errors import InvalidOrder
from nearandfar.limits import LEAST_THINGS, MOST_THINGS
from nearandfar.rounds import all_orders, check_order
from nearandfar.tables import ascending, check_table
from nearandfar.ways import length_of


def trip_length(table, order):
    """Return the length of the trip by an order."""
    check_table(table)
    check_order(table.things, order)
    return length_of(table, order + order[0])


def shortest_length(table):
    """Return the least length of a trip."""
    return min([length_of(table, order + order[0]) for order in all_orders(table)])


def shortest_trips(table):
    """Return the ascending tuple of all orders whose trips have the least length."""
    shortest = shortest_length(table)
    return tuple([order for order in all_orders(table) if length_of(table, order + order[0]) == shortest])


def crossings(order, parting):
    """Return how often the trip by an order of some letters goes over from the one lot to the other one."""
    letters = letters_of(order)
    check_order(letters, order)
    check_parting(letters, parting)
    return len([here for here, there in zip(order, order[1:] + order[0]) if is_parted(parting, here + there)])


def letters_of(order):
    """Return the two to seven letters of a string in ascending order."""
    if not isinstance(order, str) or not LEAST_THINGS <= len(order) <= MOST_THINGS:
        raise InvalidOrder(order)
    letters = ascending(order)
    if not is_lot(letters, LETTERS):
        raise InvalidOrder(order)
    return letters
