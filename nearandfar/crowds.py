"""Crowds: partings with weights that add up to the distances, and bars that show that there are none."""

from math import gcd

from nearandfar.basics import (
    best_frame,
    check_parting,
    check_parts,
    check_things,
    expelled,
    feasible_frame,
    fits_always,
    is_fraction,
    is_integer,
    is_parted,
    is_parting,
    lots_of,
    number_in,
    parted_sums,
    sum_of,
)
from nearandfar.errors import TooFar, TooMany
from nearandfar.limits import MOST_DISTANCE
from nearandfar.tables import check_table, table_of

MOST_WITH_CROWD = 6


def check_few(table):
    """Raise TooMany for a table with too many things."""
    if len(table) > MOST_WITH_CROWD:
        raise TooMany(len(table))


def names_of(table):
    """List all partings of the things, in ascending order."""
    return lots_of(table.things[1:], 1)


def raised_frame(table):
    """Return a frame for weights of all partings, and the least raise behind them, by which they make the table."""
    pairs = [pair for pair, _ in table.distances]
    columns = [[1 if is_parted(parting, pair) else 0 for pair in pairs] for parting in names_of(table)]
    many = len(columns)
    frame = feasible_frame(columns + [[-1] * len(pairs)], [far for _, far in table.distances])
    return best_frame(frame, [0] * many + [1], many + 1)


def raise_in(table, frame):
    """Return the raise in a frame, a fraction."""
    return number_in(frame, len(names_of(table)))


def crowd_frame(table):
    """Return a frame for the weights of all partings by which they make the table; None if there are none."""
    frame = raised_frame(table)
    if raise_in(table, frame) != (0, 1):
        return None
    return expelled(frame, len(names_of(table)))


def crowd(table):
    """Return a crowd that the table has; None if it has none."""
    check_table(table)
    check_few(table)
    frame = crowd_frame(table)
    if frame is None:
        return None
    weighed = [(parting, number_in(frame, at)) for at, parting in enumerate(names_of(table))]
    return tuple([(parting, weight) for parting, weight in weighed if weight != (0, 1)])


def bar(table):
    """Return a bar without a common divisor; None if there is none."""
    return raise_bar(table)


def is_crowd(table, value):
    """Tell whether any value is a crowd that the table has."""
    check_table(table)
    check_few(table)
    return is_crowd_of(table, value)


def is_crowd_of(table, value):
    """Tell whether any value is a crowd that a table of any number of things has."""
    if not isinstance(value, tuple) or not all([is_mark(mark, table.things) for mark in value]):
        return False
    if not all([mark[0] < later[0] for mark, later in zip(value, value[1:])]):
        return False
    return all([weight_between(value, pair) == (far, 1) for pair, far in table.distances])


def is_mark(value, things):
    """Tell whether any value is a pair of a parting of the things and a fraction above 0."""
    if not isinstance(value, tuple) or len(value) != 2:
        return False
    return is_parting(value[0], things) and is_fraction(value[1]) and value[1][0] > 0


def weight_between(marks, pair):
    """Return the sum of the weights of the marks that part a pair."""
    return sum_of([weight for parting, weight in marks if is_parted(parting, pair)])


def is_bar(table, value):
    """Tell whether any value is a bar of the table."""
    check_table(table)
    check_few(table)
    return is_bar_of(table, value)


def is_bar_of(table, value):
    """Tell whether any value is a bar of a table of any number of things."""
    if not isinstance(value, tuple) or len(value) != len(table.distances):
        return False
    if not all([is_integer(number) for number in value]):
        return False
    numbered = [(pair, far, number) for (pair, far), number in zip(table.distances, value)]
    for parting in names_of(table):
        if sum([number for pair, _, number in numbered if is_parted(parting, pair)]) > 0:
            return False
    return sum([far * number for _, far, number in numbered]) > 0


def weights(table, parting):
    """Return the least and the greatest weight that a parting has in all crowds of the table; None if it has none."""
    check_table(table)
    check_parting(table.things, parting)
    check_few(table)
    frame = crowd_frame(table)
    if frame is None:
        return None
    return least_weight(table, frame, parting), greatest_weight(table, frame, parting)


def least_weight(table, frame, parting):
    """Return the least weight of a parting in all crowds, a frame for one of them being given."""
    names = names_of(table)
    costs = [1 if name == parting else 0 for name in names]
    return number_in(best_frame(frame, costs, len(names)), names.index(parting))


def greatest_weight(table, frame, parting):
    """Return the greatest weight of a parting in all crowds, a frame for one of them being given."""
    names = names_of(table)
    costs = [-1 if name == parting else 0 for name in names]
    return number_in(best_frame(frame, costs, len(names)), names.index(parting))


def sure_partings(table):
    """Return the ascending tuple of the partings that each crowd of the table has as a mark; None if it has none."""
    marks = crowd(table)
    if marks is None:
        return None
    frame = crowd_frame(table)
    return tuple([parting for parting, _ in marks if least_weight(table, frame, parting) != (0, 1)])


def lone_crowd(table):
    """Tell whether the table has just one crowd."""
    check_table(table)
    check_few(table)
    frame = crowd_frame(table)
    if frame is None:
        return False
    names = names_of(table)
    for parting in names:
        if least_weight(table, frame, parting) != greatest_weight(table, frame, parting):
            return False
    return True


def least_raise(table):
    """Return the least number, a fraction, by which all distances must be greater so that the table has a crowd."""
    check_table(table)
    check_few(table)
    return raise_in(table, raised_frame(table))


def raise_bar(table):
    """Return a bar that shows the least raise; None if the table has a crowd."""
    check_table(table)
    check_few(table)
    frame = raised_frame(table)
    if raise_in(table, frame) == (0, 1):
        return None
    rows, base, _ = frame
    many = len(names_of(table)) + 1
    # What the row of the raise has in the helping columns tells how much each distance adds to the raise.
    row = rows[base.index(many - 1)][many:-1]
    divisor = 0
    for number in row:
        divisor = gcd(divisor, number)
    return tuple([number // divisor for number in row])


def crowd_table(things, marks):
    """Return the table of a crowd with whole weights."""
    check_things(things)
    check_parts(things, marks, lots_of(things[1:], 1), MOST_DISTANCE, fits_always)
    sums = parted_sums(things, marks)
    for pair in sums:
        if sums[pair] > MOST_DISTANCE:
            raise TooFar(pair)
    return table_of(things, sums)
