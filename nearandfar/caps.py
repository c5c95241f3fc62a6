"""Caps: lifts that hang over a table as low as they can, their corners, and the middle of the table."""

from nearandfar.basics import both_ways, check_thing, difference, greatest_of, is_fraction, lowest
from nearandfar.errors import InvalidLifts, TooMany
from nearandfar.tables import check_letter, check_table
from nearandfar.ways import check_right, spread

MOST_WITH_CORNERS = 5


def are_lifts(table, value):
    """Tell whether any value is a tuple with a fraction for each thing."""
    return isinstance(value, tuple) and len(value) == len(table) and all([is_fraction(lift) for lift in value])


def surplus(lift, other_lift, far):
    """Return a number above 0 if two lifts are together more than a distance, 0 if just that, else below 0."""
    bottom = lift[1] * other_lift[1]
    return lift[0] * other_lift[1] + other_lift[0] * lift[1] - far * bottom


def is_roof(table, lifts):
    """Tell whether any value is a roof over the table."""
    check_table(table)
    if not are_lifts(table, lifts):
        return False
    lift_of = by_thing(table, lifts)
    lengths = both_ways(table.things, table.distances)
    return all([surplus(lift_of[step[0]], lift_of[step[1]], lengths[step]) >= 0 for step in lengths])


def by_thing(table, lifts):
    """Return a dict of the lifts by things."""
    return {thing: lift for thing, lift in zip(table.things, lifts)}


def all_mates(table, lifts):
    """Return a dict, by things, of the ascending strings of their mates."""
    lift_of = by_thing(table, lifts)
    lengths = both_ways(table.things, table.distances)
    found = {}
    for thing in table.things:
        rows = [(other, surplus(lift_of[thing], lift_of[other], lengths[thing + other])) for other in table.things]
        found[thing] = "".join([other for other, more in rows if more == 0])
    return found


def is_cap(table, lifts):
    """Tell whether any value is a cap over the table."""
    if not is_roof(table, lifts):
        return False
    found = all_mates(table, lifts)
    return all([found[thing] != "" for thing in found])


def check_cap(table, lifts):
    """Raise InvalidLifts for what is no cap over the table."""
    if not is_cap(table, lifts):
        raise InvalidLifts(lifts)


def lowered(table, lifts):
    """Return the cap to which a roof is lowered, thing by thing, in ascending order."""
    check_table(table)
    if not is_roof(table, lifts):
        raise InvalidLifts(lifts)
    lift_of = by_thing(table, lifts)
    for thing in table.things:
        others = [other for other in table.things if other != thing]
        bounds = [difference((table.far(thing, other), 1), lift_of[other]) for other in others]
        lift_of[thing] = greatest_of([(0, 1)] + bounds)
    return tuple([lift_of[thing] for thing in table.things])


def cap_of(table, thing):
    """Return the own cap of a thing: its distances from all things."""
    check_table(table)
    check_thing(table.things, thing)
    check_right(table)
    return tuple([(table.far(thing, other), 1) for other in table.things])


def mates(table, lifts, thing):
    """Return the ascending string of all mates of a thing in a cap."""
    check_table(table)
    check_cap(table, lifts)
    check_thing(table.things, thing)
    return all_mates(table, lifts)[thing]


def gap(table, lifts, other_lifts):
    """Return the greatest difference of a thing's lifts in two caps, a fraction."""
    check_table(table)
    check_cap(table, lifts)
    check_cap(table, other_lifts)
    differences = [difference(lift, other_lift) for lift, other_lift in zip(lifts, other_lifts)]
    return greatest_of([(abs(top), bottom) for top, bottom in differences])


def is_corner(table, lifts):
    """Tell whether a cap is a corner."""
    check_table(table)
    check_cap(table, lifts)
    found = all_mates(table, lifts)
    return all([comes_back_odd(found, thing) for thing in found])


def comes_back_odd(found, thing):
    """Tell whether one comes back to a thing in an odd number of steps from mate to mate."""
    reached = thing
    # A ring of an odd number of ties in the same piece can be gone to, round and back in less than twice as many
    # steps as there are things; and whoever comes back in an odd number of steps has gone round such a ring.
    for step in range(2 * len(found)):
        reached = "".join([other for other in found if any([other in found[here] for here in reached])])
        if step % 2 == 0 and thing in reached:
            return True
    return False


def corners(table):
    """Return the tuple of all corners, ascending as numbers."""
    check_table(table)
    if len(table) > MOST_WITH_CORNERS:
        raise TooMany(len(table))
    lengths = both_ways(table.things, table.distances)
    found = {}
    # In each piece of the web of mates one can go, from mate to mate, to an odd ring, and then round it for ever.
    for row in all_choices(table.things):
        doubled = doubled_lifts(lengths, {thing: mate for thing, mate in zip(table.things, row)})
        if doubled is not None:
            found[tuple([doubled[thing] for thing in table.things])] = True
    return tuple([tuple([lowest(number, 2) for number in numbers]) for numbers in sorted(found)])


def all_choices(things):
    """List all strings that have some thing for each thing."""
    rows = [""]
    for _ in things:
        rows = [row + mate for row in rows for mate in things]
    return rows


def doubled_lifts(lengths, mate_of):
    """Return a dict of twice the lifts of the one roof for which these are mates; None if there is not just one."""
    doubled = {}
    for thing in mate_of:
        number = doubled_lift(lengths, mate_of, thing)
        if number is None:
            return None
        doubled[thing] = number
    if not all([doubled[step[0]] + doubled[step[1]] >= 2 * lengths[step] for step in lengths]):
        return None
    return doubled


def doubled_lift(lengths, mate_of, thing):
    """Return twice the lift of a thing, as going from mate to mate tells it; None if it leads to an even ring."""
    told = {}
    total, sign, here = 0, 1, thing
    # At each step the lift of the thing is the total, and the lift of whoever is reached, added or taken away.
    while here not in told:
        told[here] = total
        total += sign * lengths[here + mate_of[here]]
        sign = -sign
        here = mate_of[here]
    ring = len(told) - list(told).index(here)
    # Round an odd ring it is added the one time and taken away the other time.
    return told[here] + total if ring % 2 == 1 else None


def radius(table):
    """Return half the spread of the table, a fraction."""
    return lowest(spread(table), 2)


def middle_cap(table):
    """Return the cap to which the roof is lowered that has the radius for all things."""
    return lowered(table, (radius(table),) * len(table))


def under(table, letter, lifts):
    """Return the table with a thing more whose distances are the lifts of a cap."""
    check_table(table)
    check_letter(table.things, letter)
    if not is_cap(table, lifts) or not all([bottom == 1 for _, bottom in lifts]):
        raise InvalidLifts(lifts)
    return table.grown(letter, tuple([top for top, _ in lifts]))
