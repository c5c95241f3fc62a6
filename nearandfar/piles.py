"""Piles on the things of a table, plans by which one becomes another one, and heights."""

from nearandfar.basics import both_ways, is_integer, is_integer_within, is_letter, least_lengths
from nearandfar.errors import InvalidHeights, InvalidParts, InvalidPile, Unlike
from nearandfar.tables import check_table

MOST_ON_PILE = 60
MOST_AMOUNT = 1000000


def shortest_of(table):
    """Return a dict of the lengths of shortest ways between all two things, either way, and of 0 for each thing."""
    return least_lengths(table.things, both_ways(table.things, table.distances))


def is_pile(table, value):
    """Tell whether any value is a pile for the table."""
    check_table(table)
    return is_pile_of(table, value)


def is_pile_of(table, value):
    """Tell whether any value is a tuple of one integer from 0 to 60 for each thing."""
    if not isinstance(value, tuple) or len(value) != len(table):
        return False
    return all([is_integer_within(number, 0, MOST_ON_PILE) for number in value])


def check_pile(table, pile):
    """Raise InvalidPile for what is no pile for the table."""
    if not is_pile_of(table, pile):
        raise InvalidPile(pile)


def check_like(first, second):
    """Raise Unlike for piles with unlike sums."""
    if sum(first) != sum(second):
        raise Unlike(sum(first) - sum(second))


def is_going(value, things):
    """Tell whether any value is a triple of two unlike things and an amount."""
    if not isinstance(value, tuple) or len(value) != 3:
        return False
    two = is_letter(value[0], things) and is_letter(value[1], things)
    return two and value[0] != value[1] and is_integer_within(value[2], 1, MOST_AMOUNT)


def fits_behind(going, ahead):
    """Tell whether a triple may stand in a plan behind others."""
    for earlier in ahead:
        if going[:2] <= earlier[:2] or going[0] == earlier[1] or going[1] == earlier[0]:
            return False
    return True


def wrong_going(things, plan):
    """Return the index of the first element of a tuple that cannot stand in a plan, None if each one can."""
    for index, going in enumerate(plan):
        if not is_going(going, things) or not fits_behind(going, plan[:index]):
            return index
    return None


def check_plan(things, plan):
    """Raise InvalidParts for what is no plan from some pile to some other one."""
    if not isinstance(plan, tuple):
        raise InvalidParts(None)
    index = wrong_going(things, plan)
    if index is not None:
        raise InvalidParts(index)


def moved(things, pile, plan):
    """Return the tuple of what the things have when a plan is done, whether it is a pile or not."""
    left = {thing: number for thing, number in zip(things, pile)}
    for start, end, amount in plan:
        left[start] -= amount
        left[end] += amount
    return tuple([left[thing] for thing in things])


def is_plan(table, first, second, value):
    """Tell whether any value is a plan from a first pile to a second one."""
    check_table(table)
    check_pile(table, first)
    check_pile(table, second)
    return is_plan_of(table, first, second, value)


def is_plan_of(table, first, second, value):
    """Tell whether any value is a plan from the one pile to the other one."""
    if not isinstance(value, tuple) or wrong_going(table.things, value) is not None:
        return False
    return moved(table.things, first, value) == second


def are_heights(table, value):
    """Tell whether any value is heights for the table."""
    check_table(table)
    return are_heights_of(table, value)


def are_heights_of(table, value):
    """Tell whether any value is a tuple of integers, the least one 0, that fall nowhere by more than a way."""
    if not isinstance(value, tuple) or len(value) != len(table) or not all([is_integer(number) for number in value]):
        return False
    shortest = shortest_of(table)
    height = {thing: number for thing, number in zip(table.things, value)}
    falls = all([height[high] - height[low] <= shortest[high + low] for high in height for low in height])
    return falls and min(value) == 0


def plan_cost(table, plan):
    """Return the cost of a plan from some pile to some other one."""
    check_table(table)
    check_plan(table.things, plan)
    return cost_of(table, plan)


def cost_of(table, plan):
    """Return the sum of the amounts of a plan, each times the length of a shortest way."""
    shortest = shortest_of(table)
    return sum([amount * shortest[start + end] for start, end, amount in plan])


def after(table, pile, plan):
    """Return the pile that a plan makes of this one."""
    check_table(table)
    check_pile(table, pile)
    check_plan(table.things, plan)
    left = moved(table.things, pile, plan)
    for index, number in enumerate(left):
        if not 0 <= number <= MOST_ON_PILE:
            raise InvalidParts(index)
    return left


def gain(table, heights, first, second):
    """Return the sum of each height times what the first pile has more there than the second one."""
    check_table(table)
    if not are_heights_of(table, heights):
        raise InvalidHeights(heights)
    check_pile(table, first)
    check_pile(table, second)
    check_like(first, second)
    return gain_of(heights, first, second)


def gain_of(heights, first, second):
    """Return the sum of each height times the difference of two piles there."""
    return sum([height * (have - want) for height, have, want in zip(heights, first, second)])
