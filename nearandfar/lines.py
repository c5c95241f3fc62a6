"""Lines: straight threes, files, posts, and what bars a table from being a line."""

from itertools import combinations, permutations

from nearandfar.basics import is_lot, lots_of, pairs_of
from nearandfar.errors import InvalidThings
from nearandfar.tables import check_table
from nearandfar.ways import length_of, lies_between


def is_straight(table, things):
    """Tell whether one of these three things lies between the other two."""
    check_table(table)
    if not is_lot(things, table.things) or len(things) != 3:
        raise InvalidThings(things)
    return are_straight(table, things)


def are_straight(table, three):
    """Tell whether of three things of the table one lies between the other two."""
    first, second, third = three
    outer = lies_between(table, first, second, third) or lies_between(table, third, first, second)
    return outer or lies_between(table, second, first, third)


def files(table):
    """Return the ascending tuple of all files that are no part of a longer one."""
    check_table(table)
    found = []
    covered = set()
    # A part of a part is a part: so it is enough to leave out the parts of the files that are found.
    for string in all_files(table):
        if string not in covered:
            found.append(string)
            for part in parts_of(string):
                covered.add(part)
    return tuple(sorted(found))


def all_files(table):
    """List all files, each with its lesser end first, the longest ones first."""
    things = table.things
    strings = ["".join(row) for size in range(len(things), 1, -1) for row in permutations(things, size)]
    return [string for string in strings if string[0] < string[-1] and is_file(table, string)]


def is_file(table, string):
    """Tell whether a string of unlike things is as long as the distance of its ends."""
    return length_of(table, string) == table.far(string[0], string[-1])


def parts_of(string):
    """List what is left of a string if things are left out, two or more, each with its lesser end first."""
    parts = ["".join(row) for size in range(2, len(string)) for row in combinations(string, size)]
    return [min(part, part[::-1]) for part in parts]


def longest_files(table):
    """Return the ascending tuple of the files with the most things."""
    found = files(table)
    most = max([len(string) for string in found])
    return tuple([string for string in found if len(string) == most])


def is_line(table):
    """Tell whether the table has posts."""
    return posts(table) is not None


def posts(table):
    """Return the lesser posts of a table; None if it is no line."""
    check_table(table)
    return posts_of(table, table.things)


def posts_of(table, lot):
    """Return the lesser posts of the things of a lot; None if their table is no line."""
    pairs = pairs_of(lot)
    # Two things with the greatest distance are the ends of a line: one of them has the post 0.
    start, end = max(pairs, key=lambda pair: table.far(pair[0], pair[1]))
    rising = {thing: table.far(start, thing) for thing in lot}
    if not all([table.far(pair[0], pair[1]) == abs(rising[pair[0]] - rising[pair[1]]) for pair in pairs]):
        return None
    falling = {thing: table.far(start, end) - rising[thing] for thing in lot}
    return min(tuple([rising[thing] for thing in lot]), tuple([falling[thing] for thing in lot]))


def crooked_four(table):
    """Return the first crooked four, its least thing first and the second one less than the fourth, or None."""
    check_table(table)
    things = table.things
    # These come in ascending order: the first of the strings in which a four is crooked has the asked form.
    for four in permutations(things, 4):
        if is_crooked(table, four):
            return "".join(four)
    return None


def is_crooked(table, four):
    """Tell whether four things, in this order, are a crooked four."""
    first, second, third, fourth = four
    side, next_side = table.far(first, second), table.far(second, third)
    alike = side == table.far(third, fourth) and next_side == table.far(fourth, first)
    across = table.far(first, third) == side + next_side and table.far(second, fourth) == side + next_side
    return alike and across and side > 0 and next_side > 0


def bent_three(table):
    """Return the first ascending string of three things that are not straight, or None."""
    check_table(table)
    things = table.things
    for three in combinations(things, 3):
        if not are_straight(table, three):
            return "".join(three)
    return None


def line_lots(table):
    """Return the ascending tuple of all lots of things on a line that are part of no greater one."""
    check_table(table)
    lots = [lot for lot in lots_of(table.things, 2) if posts_of(table, lot) is not None]
    return tuple([lot for lot in lots if not any([lot != other and is_lot(lot, other) for other in lots])])
