"""The checker: it looks whether a paper shows that a claim is true, whoever wrote both.

Each function whose name begins with shows is given what a claim tells behind its word, and any value as the paper.
"""

from itertools import combinations

from nearandfar.basics import (
    MOST_DOUBLED,
    both_ways,
    do_cross,
    is_fraction,
    is_integer,
    is_letter,
    is_lot,
    is_pair,
    is_part,
    is_parting,
    lots_of,
    pairs_of,
    parted_sums,
)
from nearandfar.caps import all_mates, is_roof, radius
from nearandfar.clocks import least_steps, levels_of
from nearandfar.crowds import is_bar_of, is_crowd_of
from nearandfar.errors import InvalidText
from nearandfar.exchanges import are_alike
from nearandfar.hidden import span, trouble
from nearandfar.lines import are_straight, is_crooked
from nearandfar.needed import needed_pairs
from nearandfar.partings import do_clash, room_of, strength
from nearandfar.piles import are_heights_of, cost_of, gain_of, is_pile_of, is_plan_of
from nearandfar.rounds import is_bad, is_order, orders_of, runs_of
from nearandfar.sheets import Sheet
from nearandfar.tables import Table, ascending
from nearandfar.trees import is_odd
from nearandfar.trips import shortest_length, trip_length
from nearandfar.ways import is_right, is_way, length_of, lies_between, spread, twins
from nearandfar.webs import Web


def is_empty(value):
    """Tell whether any value is the empty tuple."""
    return isinstance(value, tuple) and len(value) == 0


def is_two(value):
    """Tell whether any value is a tuple of two."""
    return isinstance(value, tuple) and len(value) == 2


def are_strings(value):
    """Tell whether any value is a tuple of strings."""
    return isinstance(value, tuple) and all([isinstance(part, str) for part in value])


def are_unlike(value, letters):
    """Tell whether any value is a string of unlike ones of these letters, in any order."""
    return isinstance(value, str) and is_lot(ascending(value), ascending(letters))


def are_things_of(table, value, many):
    """Tell whether any value is a string of so many things of a table, perhaps the same."""
    return isinstance(value, str) and len(value) == many and all([thing in table.things for thing in value])


def are_numbered(value, lots):
    """Tell whether any value is an ascending tuple of pairs of one of these lots and an integer from 1 on."""
    # More than twice the greatest distance can be no lot's number: each lot parts some pair.
    if not isinstance(value, tuple) or not all([is_part(part, lots, MOST_DOUBLED) for part in value]):
        return False
    return all([part < later for part, later in zip(value, value[1:])])


def make_up(table, parts):
    """Tell whether for each pair the numbers of those that part it add up to twice its distance."""
    sums = parted_sums(table.things, parts)
    return all([sums[pair] == 2 * far for pair, far in table.distances])


def shows_right(told, paper):
    """Look at a paper of "right"."""
    return is_empty(paper) and is_right(told[0])


def shows_long(told, paper):
    """Look at a paper of "long"."""
    table = told[0]
    if not are_unlike(paper, table.things) or len(paper) != 3:
        return False
    return table.far(paper[0], paper[2]) > length_of(table, paper)


def shows_closed(told, paper):
    """Look at a paper of "closed"."""
    table, other_table = told
    if table.things != other_table.things or not are_strings(paper) or len(paper) != len(table.distances):
        return False
    # A right table not above the first one is not above the closed one; the ways show that it is not below.
    for (pair, far), (_, least), way in zip(table.distances, other_table.distances, paper):
        if least > far or not is_way(table, way) or way[0] + way[-1] != pair or length_of(table, way) != least:
            return False
    return is_right(other_table)


def shows_makes(told, paper):
    """Look at a paper of "makes"."""
    web, table = told
    if web.table() != table or not are_strings(paper) or len(paper) != len(table.distances):
        return False
    places = web.hidden + web.things
    steps = both_ways(places, web.ties)
    for (pair, far), road in zip(table.distances, paper):
        passed = [here + there for here, there in zip(road, road[1:])]
        if not are_unlike(road, places) or not all([step in steps for step in passed]):
            return False
        if road[:1] + road[-1:] != pair or sum([steps[step] for step in passed]) != far:
            return False
    return True


def shows_needed(told, paper):
    """Look at a paper of "needed"."""
    table, needed = told
    if not is_right(table) or twins(table) != () or not are_strings(needed) or needed != needed_pairs(table):
        return False
    others = [pair for pair in pairs_of(table.things) if pair not in needed]
    if not isinstance(paper, tuple) or len(paper) != len(others):
        return False
    return all([is_two(part) and shows_between(table, pair, part) for pair, part in zip(others, paper)])


def shows_between(table, pair, part):
    """Tell whether a tuple of two is this pair and a thing between its two."""
    if not is_pair(part[0], table.things) or part[0] != pair or not is_letter(part[1], table.things):
        return False
    return lies_between(table, part[1], pair[0], pair[1])


def shows_line(told, paper):
    """Look at a paper of "line"."""
    table = told[0]
    if not isinstance(paper, tuple) or len(paper) != len(table) or not all([is_integer(post) for post in paper]):
        return False
    post_of = {thing: post for thing, post in zip(table.things, paper)}
    apart = all([abs(post_of[pair[0]] - post_of[pair[1]]) == far for pair, far in table.distances])
    return apart and min(paper) == 0


def shows_no_line(told, paper):
    """Look at a paper of "no line"."""
    table = told[0]
    if not are_unlike(paper, table.things):
        return False
    if len(paper) == 3:
        return not are_straight(table, paper)
    return len(paper) == 4 and is_crooked(table, paper)


def are_unlike_parts(table, paper):
    """Tell whether any value is an ascending tuple of pairs of unlike partings and integers that make a table up."""
    if not are_numbered(paper, lots_of(table.things[1:], 1)):
        return False
    return all([part[0] != later[0] for part, later in zip(paper, paper[1:])]) and make_up(table, paper)


def shows_tree(told, paper):
    """Look at a paper of "tree"."""
    table = told[0]
    if not are_unlike_parts(table, paper):
        return False
    return not any([do_cross(table.things, one[0], other[0]) for one, other in combinations(paper, 2)])


def shows_no_tree(told, paper):
    """Look at a paper of "no tree"."""
    table = told[0]
    if not are_things_of(table, paper, 4) or ascending(paper) != paper:
        return False
    return is_odd(both_ways(table.things, table.distances), paper)


def shows_sum(told, paper):
    """Look at a paper of "sum"."""
    table = told[0]
    if not are_unlike_parts(table, paper):
        return False
    lots = [part[0] for part in paper]
    return not any([do_clash(table.things, three) for three in combinations(lots, 3)])


def shows_strength(told, paper):
    """Look at a paper of "strength"."""
    table, parting, number = told
    if not is_parting(parting, table.things) or not are_things_of(table, paper, 4):
        return False
    first, second, third, fourth = [thing in parting for thing in paper]
    if first != second or third != fourth or first == third:
        return False
    return room_of(table, paper[:2], paper[2:]) == number and strength(table, parting) == number


def shows_round(told, paper):
    """Look at a paper of "round"."""
    table, order = told
    if not is_order(order, table.things):
        return False
    return are_numbered(paper, [ascending(run[1:-1]) for run in runs_of(order)]) and make_up(table, paper)


def shows_no_round(told, paper):
    """Look at a paper of "no round"."""
    table = told[0]
    orders = orders_of(table.things)
    if not is_right(table) or not are_strings(paper) or len(paper) != len(orders):
        return False
    lengths = both_ways(table.things, table.distances)
    return all([len(four) == 4 and is_lot(four, order) and is_bad(lengths, four) for order, four in zip(orders, paper)])


def shows_trip(told, paper):
    """Look at a paper of "trip"."""
    table, number = told
    return is_order(paper, table.things) and trip_length(table, paper) <= number


def shows_trips(told, paper):
    """Look at a paper of "trips"."""
    table, number = told
    if is_empty(paper):
        return shortest_length(table) >= number
    if not are_numbered(paper, lots_of(table.things[1:], 1)):
        return False
    sums = parted_sums(table.things, paper)
    return all([sums[pair] <= 2 * far for pair, far in table.distances]) and sum([part[1] for part in paper]) >= number


def shows_level(told, paper):
    """Look at a paper of "level"."""
    table, pair, number = told
    if not is_pair(pair, table.things) or not is_two(paper):
        return False
    way, lot = paper
    if not is_way(table, way) or way[0] + way[-1] != pair or not is_lot(lot, table.things):
        return False
    if pair[0] not in lot or pair[1] in lot:
        return False
    near = all([table.far(here, there) <= number for here, there in zip(way, way[1:])])
    others = [thing for thing in table.things if thing not in lot]
    return near and all([table.far(thing, other) >= number for thing in lot for other in others])


def shows_least_tree(told, paper):
    """Look at a paper of "least tree"."""
    table, number = told
    if not are_strings(paper) or len(paper) != len(table) - 1:
        return False
    rows = [(pair, far) for pair, far in table.distances if pair in paper]
    if paper != tuple([pair for pair, _ in rows]) or sum([far for _, far in rows]) != number:
        return False
    # A tree is a least one exactly if no way has a lesser greatest distance than the one over the tree.
    own, least = least_steps(table.things, both_ways(table.things, rows)), levels_of(table)
    return all([pair in own and own[pair] == least[pair] for pair in pairs_of(table.things)])


def shows_crowd(told, paper):
    """Look at a paper of "crowd"."""
    return is_crowd_of(told[0], paper)


def shows_no_crowd(told, paper):
    """Look at a paper of "no crowd"."""
    return is_bar_of(told[0], paper)


def shows_cost(told, paper):
    """Look at a paper of "cost"."""
    table, first, second, number = told
    if not is_pile_of(table, first) or not is_pile_of(table, second) or not is_two(paper):
        return False
    plan, heights = paper
    if not is_plan_of(table, first, second, plan) or not are_heights_of(table, heights):
        return False
    return cost_of(table, plan) == number and gain_of(heights, first, second) == number


def shows_cap(told, paper):
    """Look at a paper of "cap"."""
    table, lifts = told
    if not is_roof(table, lifts) or not are_things_of(table, paper, len(table)):
        return False
    mates = all_mates(table, lifts)
    return all([mate in mates[thing] for thing, mate in zip(table.things, paper)])


def shows_radius(told, paper):
    """Look at a paper of "radius"."""
    table, half = told
    if not is_fraction(half) or half != radius(table) or not is_pair(paper, table.things):
        return False
    return table.far(paper[0], paper[1]) == spread(table)


def shows_alike(told, paper):
    """Look at a paper of "alike"."""
    table, other_table = told
    if not are_unlike(paper, other_table.things) or not len(paper) == len(table) == len(other_table):
        return False
    new = {thing: letter for thing, letter in zip(table.things, paper)}
    return all([other_table.far(new[pair[0]], new[pair[1]]) == far for pair, far in table.distances])


def shows_unlike(told, paper):
    """Look at a paper of "unlike"."""
    return is_empty(paper) and not are_alike(told[0], told[1])


def shows_torn(told, paper):
    """Look at a paper of "torn"."""
    sheet = told[0]
    known = {pair: far for pair, far in sheet.distances if far is not None}
    if not is_two(paper) or not isinstance(paper[0], str) or paper[0] not in known or not isinstance(paper[1], str):
        return False
    pair, way = paper
    steps = [ascending(here + there) for here, there in zip(way, way[1:])]
    if way[:1] + way[-1:] != pair or not all([step in known for step in steps]):
        return False
    return sum([known[step] for step in steps]) < known[pair]


def shows_span(told, paper):
    """Look at a paper of "span"."""
    sheet, pair, least, greatest = told
    if not is_empty(paper) or not is_pair(pair, sheet.things) or trouble(sheet) is not None:
        return False
    return span(sheet, pair) == (least, greatest)


# What a claim tells behind its word, and how its papers are looked at.
CLAIMS = {
    "right": (shows_right, "table"),
    "long": (shows_long, "table"),
    "closed": (shows_closed, "table", "table"),
    "makes": (shows_makes, "web", "table"),
    "needed": (shows_needed, "table", "value"),
    "line": (shows_line, "table"),
    "no line": (shows_no_line, "table"),
    "tree": (shows_tree, "table"),
    "no tree": (shows_no_tree, "table"),
    "sum": (shows_sum, "table"),
    "strength": (shows_strength, "table", "value", "integer"),
    "round": (shows_round, "table", "value"),
    "no round": (shows_no_round, "table"),
    "trip": (shows_trip, "table", "integer"),
    "trips": (shows_trips, "table", "integer"),
    "level": (shows_level, "table", "value", "integer"),
    "least tree": (shows_least_tree, "table", "integer"),
    "crowd": (shows_crowd, "table"),
    "no crowd": (shows_no_crowd, "table"),
    "cost": (shows_cost, "table", "value", "value", "integer"),
    "cap": (shows_cap, "table", "value"),
    "radius": (shows_radius, "table", "value"),
    "alike": (shows_alike, "table", "table"),
    "unlike": (shows_unlike, "table", "table"),
    "torn": (shows_torn, "sheet"),
    "span": (shows_span, "sheet", "value", "integer", "integer"),
}


def accepts(claim, paper):
    """Tell whether a value is a claim for the checker and another one is a paper for it."""
    if not isinstance(claim, tuple) or len(claim) == 0 or not isinstance(claim[0], str) or claim[0] not in CLAIMS:
        return False
    row = CLAIMS[claim[0]]
    look = row[0]
    if len(claim) != len(row):
        return False
    told = [told_part(kind, value) for kind, value in zip(row[1:], claim[1:])]
    return not any([part is None for part in told]) and look(told, paper)


def told_part(kind, value):
    """Return what a part of a claim tells, None if it is not of this kind."""
    try:
        if kind == "table":
            return Table.told(value)
        if kind == "web":
            return Web.told(value)
        if kind == "sheet":
            return Sheet.told(value)
    except InvalidText:
        return None
    return value if kind == "value" or is_integer(value) else None
