"""Moves: the cheapest plans from pile to pile, and heights that show that none is cheaper."""

from nearandfar.basics import (
    best_frame,
    check_thing,
    feasible_frame,
    least_lengths,
    lowest,
    number_in,
    sum_of,
)
from nearandfar.crowds import is_crowd_of
from nearandfar.errors import InvalidParts, InvalidPiles
from nearandfar.piles import MOST_ON_PILE, check_like, check_pile, cost_of, is_pile_of, shortest_of
from nearandfar.tables import check_table

MOST_PILES = 20


def check_piles(table, first, second):
    """Raise InvalidPile for what is no pile."""
    check_pile(table, first)
    check_pile(table, second)


def cheapest(things, costs, first, second):
    """Return a cheapest plan between two piles with the same sum, by a dict of what it costs from thing to thing."""
    left = {thing: have - want for thing, have, want in zip(things, first, second) if have != want}
    goings = [(start, end) for start in left for end in left if left[start] > 0 and left[end] < 0]
    # What comes to the last thing is told by all the rest.
    told = list(left)[:-1]
    columns = [[1 if thing in going else 0 for thing in told] for going in goings]
    frame = feasible_frame(columns, [abs(left[thing]) for thing in told])
    frame = best_frame(frame, [costs[start + end] for start, end in goings], len(goings))
    numbers = [number_in(frame, at)[0] for at in range(len(goings))]
    return tuple([(start, end, amount) for (start, end), amount in zip(goings, numbers) if amount > 0])


def cost(table, first, second):
    """Return the least cost of two piles."""
    return cost_of(table, plan(table, first, second))


def plan(table, first, second):
    """Return a plan with the least cost."""
    check_table(table)
    check_piles(table, first, second)
    check_like(first, second)
    return cheapest(table.things, shortest_of(table), first, second)


def heights(table, first, second):
    """Return heights whose gain is the least cost."""
    goings = plan(table, first, second)
    steps = shortest_of(table)
    for start, end, _ in goings:
        # Whoever goes back takes back what the plan does. As no ring of such goings is below 0, least lengths are told.
        steps[end + start] = -steps[start + end]
    least = least_lengths(table.things, steps)
    falls = [least[thing + table.things[0]] for thing in table.things]
    return tuple([fall - min(falls) for fall in falls])


def amounts(table, first, second, thing, other):
    """Return the least and the greatest amount from the one thing to the other one in all plans with the least cost."""
    check_table(table)
    check_piles(table, first, second)
    check_thing(table.things, thing)
    check_thing(table.things, other)
    check_like(first, second)
    shortest = shortest_of(table)
    # Beside costs that are so many times as great, a number that is added for this way tells only cheapest plans apart.
    dear = {step: (MOST_ON_PILE + 1) * shortest[step] for step in shortest}
    found = []
    for more in (1, -1):
        costs = {step: dear[step] + more if step == thing + other else dear[step] for step in dear}
        goings = cheapest(table.things, costs, first, second)
        found.append(sum([amount for start, end, amount in goings if (start, end) == (thing, other)]))
    return found[0], found[1]


def gathered(table, pile):
    """Return a dict of what it costs to bring all of a pile to each thing."""
    shortest = shortest_of(table)
    here = [(thing, number) for thing, number in zip(table.things, pile)]
    return {place: sum([number * shortest[thing + place] for thing, number in here]) for place in table.things}


def best_places(table, pile):
    """Return the ascending string of the things to which all of the pile can be brought with the least cost."""
    least = gather_cost(table, pile)
    found = gathered(table, pile)
    return "".join([thing for thing in table.things if found[thing] == least])


def gather_cost(table, pile):
    """Return the least cost of bringing all of a pile to one thing."""
    check_table(table)
    check_pile(table, pile)
    found = gathered(table, pile)
    return min([found[thing] for thing in found])


def nearest(table, pile, piles):
    """Return the ascending tuple of the indexes of the piles with the same sum that cost the least."""
    check_table(table)
    check_pile(table, pile)
    check_some_piles(table, piles)
    costs = {index: cost(table, pile, other) for index, other in enumerate(piles) if sum(other) == sum(pile)}
    least = min([costs[index] for index in costs], default=0)
    return tuple([index for index in costs if costs[index] == least])


def check_some_piles(table, piles):
    """Raise InvalidPiles for what is no tuple of one to twenty piles."""
    if not isinstance(piles, tuple) or not 1 <= len(piles) <= MOST_PILES:
        raise InvalidPiles(None)
    for index, pile in enumerate(piles):
        if not is_pile_of(table, pile):
            raise InvalidPiles(index)


def parted_cost(table, marks, first, second):
    """Return the sum, over the marks of a crowd, of the weight times the difference of two piles on a side."""
    check_table(table)
    if not is_crowd_of(table, marks):
        raise InvalidParts(None)
    check_piles(table, first, second)
    check_like(first, second)
    parts = []
    for parting, (top, bottom) in marks:
        over = [have - want for thing, have, want in zip(table.things, first, second) if thing in parting]
        parts.append(lowest(top * abs(sum(over)), bottom))
    return sum_of(parts)
