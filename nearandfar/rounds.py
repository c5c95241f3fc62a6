"""Rounds: orders of all things, and tables that are round-right by one."""

from itertools import combinations, permutations

from nearandfar.basics import MOST_DOUBLED, both_ways, check_parts, check_things, fits_always, pairs_of, parted_sums
from nearandfar.errors import InvalidOrder, NotRound, TooFar
from nearandfar.tables import ascending, check_table, table_of
from nearandfar.ways import check_right


def is_order(value, things):
    """Tell whether any value is an order of these things."""
    if not isinstance(value, str) or len(value) != len(things) or ascending(value) != things:
        return False
    return value[0] == things[0] and (len(value) == 2 or value[1] < value[-1])


def check_order(things, order):
    """Raise InvalidOrder for what is no order of these things."""
    if not is_order(order, things):
        raise InvalidOrder(order)


def orders_of(things):
    """List all orders of these things in ascending order."""
    later = things[1:]
    strings = [things[0] + "".join(row) for row in permutations(later)]
    return [string for string in strings if is_order(string, things)]


def all_orders(table):
    """Return the ascending tuple of all orders of the things."""
    check_table(table)
    return tuple(orders_of(table.things))


def bad_four(table, order):
    """Return the first string of four things for which the table is not round-right by an order, or None."""
    check_table(table)
    check_order(table.things, order)
    check_right(table)
    return bad_four_of(table, order)


def bad_four_of(table, order):
    """Return the first four things, as they stand in an order of a right table, that bar it from being round."""
    lengths = both_ways(table.things, table.distances)
    for four in combinations(order, 4):
        if is_bad(lengths, four):
            return "".join(four)
    return None


def is_bad(lengths, four):
    """Tell whether of four things in order round the two ways across are together less than two sides."""
    first, second, third, fourth = four
    across = lengths[first + third] + lengths[second + fourth]
    sides = lengths[first + second] + lengths[third + fourth]
    return across < max(sides, lengths[second + third] + lengths[first + fourth])


def round_orders(table):
    """Return the ascending tuple of all orders by which the table is round-right."""
    check_table(table)
    check_right(table)
    return tuple([order for order in orders_of(table.things) if bad_four_of(table, order) is None])


def runs_of(order):
    """List, for each run of an order, its things as they stand, with what is ahead of them and behind them."""
    # The first thing is the least one, which is in no lot that is written; it stands behind the last thing, too.
    ring = order + order[0]
    return [ring[start:end] for start in range(len(order) - 1) for end in range(start + 3, len(ring) + 1)]


def numbers_of(table, order):
    """Return the ascending tuple of pairs (PARTING, NUMBER) of all runs with a number that is not 0."""
    lengths = both_ways(table.things, table.distances)
    found = []
    for run in runs_of(order):
        ahead, first, last, behind = run[0], run[1], run[-2], run[-1]
        number = lengths[ahead + last] + lengths[first + behind] - lengths[first + last] - lengths[ahead + behind]
        if number != 0:
            found.append((ascending(run[1:-1]), number))
    return tuple(sorted(found))


def run_numbers(table, order):
    """Return the ascending tuple of pairs (PARTING, NUMBER) of all runs with a number above 0."""
    four = bad_four(table, order)
    if four is not None:
        raise NotRound(four)
    return numbers_of(table, order)


def table_of_runs(things, order, numbers):
    """Return the table that has these numbers of runs."""
    check_things(things)
    check_order(things, order)
    check_parts(things, numbers, [ascending(run[1:-1]) for run in runs_of(order)], MOST_DOUBLED, fits_always)
    sums = parted_sums(things, numbers)
    for pair in pairs_of(things):
        if sums[pair] % 2 == 1 or sums[pair] > MOST_DOUBLED:
            raise TooFar(pair)
    return table_of(things, {pair: sums[pair] // 2 for pair in sums})
