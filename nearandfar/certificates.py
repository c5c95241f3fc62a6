"""Certificates: pairs of a claim and a paper that the checker accepts."""

from nearandfar.basics import check_pair, check_parting, other_lot, twos_of
from nearandfar.caps import all_mates, check_cap, radius
from nearandfar.clocks import level, levels_of
from nearandfar.crowds import bar, crowd
from nearandfar.exchanges import told_by
from nearandfar.hidden import span, trouble
from nearandfar.lines import bent_three, crooked_four, posts
from nearandfar.moves import cost, heights, plan
from nearandfar.needed import needed_pairs
from nearandfar.partings import clear, room_of, strength
from nearandfar.rests import is_sum
from nearandfar.rounds import all_orders, bad_four, round_orders, run_numbers
from nearandfar.sheets import check_sheet
from nearandfar.spanning import least_sum, least_tree
from nearandfar.tables import check_table
from nearandfar.trees import odd_four, pieces
from nearandfar.trips import shortest_length, shortest_trips
from nearandfar.ways import between, closed, is_right, least_way, long_three, plain_ways, spread
from nearandfar.webs import check_web, shortest_roads


def certify_right(table):
    """Return a claim, with a paper, that the table is right, or that it is not."""
    three = long_three(table)
    if three is None:
        return ("right", str(table)), ()
    return ("long", str(table)), three


def certify_closed(table):
    """Return a claim, with a paper, of what the closed table is."""
    goal = closed(table)
    ways = [least_way(table, pair[0], pair[1]) for pair, _ in table.distances]
    return ("closed", str(table), str(goal)), tuple(ways)


def certify_web(web):
    """Return a claim, with a paper, of what the table of the web is."""
    check_web(web)
    table = web.table()
    roads = [shortest_roads(web, pair)[0] for pair, _ in table.distances]
    return ("makes", str(web), str(table)), tuple(roads)


def certify_needed(table):
    """Return a claim, with a paper, of what the needed pairs of the table are."""
    needed = needed_pairs(table)
    others = [pair for pair, _ in table.distances if pair not in needed]
    return ("needed", str(table), needed), tuple([(pair, between(table, pair[0], pair[1])[0]) for pair in others])


def certify_line(table):
    """Return a claim, with a paper, that the table is a line, or that it is none."""
    found = posts(table)
    if found is not None:
        return ("line", str(table)), found
    three = bent_three(table)
    return ("no line", str(table)), crooked_four(table) if three is None else three


def certify_tree(table):
    """Return a claim, with a paper, that the table comes of a tree, or that it does not."""
    four = odd_four(table)
    if four is None:
        return ("tree", str(table)), pieces(table)
    return ("no tree", str(table)), four


def certify_sum(table):
    """Return a claim, with a paper, that the table is a sum; None if it is none."""
    if not is_sum(table):
        return None
    return ("sum", str(table)), clear(table)


def certify_strength(table, parting):
    """Return a claim, with a paper, of what the strength of a parting is."""
    check_table(table)
    check_parting(table.things, parting)
    number = strength(table, parting)
    twos = twos_of(other_lot(table.things, parting))
    fours = [(two, others) for two in twos for others in twos_of(parting)]
    narrow = [two + others for two, others in fours if room_of(table, two, others) == number]
    return ("strength", str(table), parting, number), "".join(narrow[0])


def certify_round(table):
    """Return a claim, with a paper, that the table is round-right by an order, or that it is by none."""
    orders = round_orders(table)
    if orders:
        return ("round", str(table), orders[0]), run_numbers(table, orders[0])
    return ("no round", str(table)), tuple([bad_four(table, order) for order in all_orders(table)])


def certify_trip(table):
    """Return a claim, with a paper, that there is a trip of the shortest length."""
    check_table(table)
    return ("trip", str(table), shortest_length(table)), shortest_trips(table)[0]


def certify_trips(table):
    """Return a claim, with a paper, that no trip is shorter than the shortest one."""
    check_table(table)
    claim = ("trips", str(table), shortest_length(table))
    orders = round_orders(table) if is_right(table) else ()
    return claim, run_numbers(table, orders[0]) if orders else ()


def certify_level(table, pair):
    """Return a claim, with a paper, of what the level of a pair is."""
    number = level(table, pair)
    found = levels_of(table)
    # At a lesser level than the pair's own one the first thing comes to these alone.
    lot = [thing for thing in table.things if thing == pair[0] or found[pair[0] + thing] < number]
    ways = plain_ways(table.things, pair[0], pair[1])
    return ("level", str(table), pair, number), (min(ways, key=lambda way: longest_step(table, way)), "".join(lot))


def longest_step(table, way):
    """Return the greatest distance of neighbours in a way."""
    return max([table.far(here, there) for here, there in zip(way, way[1:])])


def certify_span(table):
    """Return a claim, with a paper, of what the distances of a least tree are together."""
    check_table(table)
    return ("least tree", str(table), least_sum(table)), least_tree(table)


def certify_crowd(table):
    """Return a claim, with a paper, that the table has a crowd, or that it has none."""
    marks = crowd(table)
    if marks is None:
        return ("no crowd", str(table)), bar(table)
    return ("crowd", str(table)), marks


def certify_cost(table, first, second):
    """Return a claim, with a paper, of what the least cost of two piles is."""
    paper = (plan(table, first, second), heights(table, first, second))
    return ("cost", str(table), first, second, cost(table, first, second)), paper


def certify_cap(table, lifts):
    """Return a claim, with a paper, that lifts are a cap."""
    check_table(table)
    check_cap(table, lifts)
    found = all_mates(table, lifts)
    return ("cap", str(table), lifts), "".join([found[thing][0] for thing in table.things])


def certify_radius(table):
    """Return a claim, with a paper, of what the radius is."""
    greatest = spread(table)
    farthest = [pair for pair, far in table.distances if far == greatest]
    return ("radius", str(table), radius(table)), farthest[0]


def certify_alike(table, other_table):
    """Return a claim, with a paper, that two tables are alike, or that they are not."""
    letters = told_by(table, other_table)
    if letters is None:
        return ("unlike", str(table), str(other_table)), ()
    return ("alike", str(table), str(other_table)), letters


def certify_sheet(sheet, pair):
    """Return a claim, with a paper, that the sheet has no filling, or of what a distance of it can be."""
    check_sheet(sheet)
    check_pair(sheet.things, pair)
    found = trouble(sheet)
    if found is not None:
        return ("torn", str(sheet)), found
    least, greatest = span(sheet, pair)
    return ("span", str(sheet), pair, least, greatest), ()
