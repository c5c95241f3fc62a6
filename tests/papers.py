"""Papers looked at by hand: what [43] says of each claim, as directly as it can be written."""

import itertools
from fractions import Fraction

from nearandfar.errors import InvalidText
from nearandfar.sheets import Sheet
from nearandfar.tables import Table
from nearandfar.webs import Web
from tests.support import closed_by_hand, is_right_by_hand, lengths_of, pairs, subsets


def whole(value, least=None):
    return value.__class__ is int and (least is None or value >= least)


def is_tuple(value, size=None):
    return isinstance(value, tuple) and (size is None or len(value) == size)


def is_letters(value, letters, size=None):
    """Some of these letters, unlike."""
    right = isinstance(value, str) and len(set(value)) == len(value) and set(value) <= set(letters)
    return right and (size is None or len(value) == size)


def is_ascending(value, letters, size=None):
    return is_letters(value, letters, size) and list(value) == sorted(value)


def is_parting(value, things):
    return is_ascending(value, things[1:]) and value != ""


def splits(parting, pair):
    return (pair[0] in parting) != (pair[1] in parting)


def is_way(value, things):
    right = isinstance(value, str) and len(value) >= 2 and set(value) <= set(things)
    return right and all(here != there for here, there in zip(value, value[1:]))


def length(lengths, way):
    return sum(lengths[step] for step in zip(way, way[1:]))


def orders(things):
    rows = ["".join((things[0],) + row) for row in itertools.permutations(things[1:])]
    return [row for row in rows if len(row) == 2 or row[1] < row[-1]]


def trip(lengths, order):
    return length(lengths, order + order[0])


def right(paper, table):
    return is_tuple(paper, 0) and is_right_by_hand(table)


def too_long(paper, table):
    if not is_letters(paper, table.things, 3):
        return False
    x, y, z = paper
    lengths = lengths_of(table)
    return lengths[x, z] > lengths[x, y] + lengths[y, z]


def closed(paper, table, other):
    if closed_by_hand(table) != other or not is_tuple(paper, len(table.distances)):
        return False
    lengths = lengths_of(table)
    return all(
        is_way(way, table.things) and way[0] + way[-1] == pair and length(lengths, way) == least
        for way, (pair, least) in zip(paper, other.distances)
    )


def makes(paper, web, table):
    places = web.things + web.hidden
    steps = {(x, x): 0 for x in places}
    for (x, y), tie in web.ties:
        steps[x, y] = steps[y, x] = tie
    least = dict(steps)
    for y, x, z in itertools.product(places, repeat=3):
        if (x, y) in least and (y, z) in least:
            least[x, z] = min(least.get((x, z), 10 ** 9), least[x, y] + least[y, z])
    if web.things != table.things or any(least[tuple(pair)] != distance for pair, distance in table.distances):
        return False
    if not is_tuple(paper, len(table.distances)):
        return False
    for road, (pair, distance) in zip(paper, table.distances):
        if not is_letters(road, places) or len(road) < 2 or road[0] + road[-1] != pair:
            return False
        if any(step not in steps for step in zip(road, road[1:])) or length(steps, road) != distance:
            return False
    return True


def betweens(table, pair):
    lengths = lengths_of(table)
    x, z = pair
    return [y for y in table.things if y not in pair and lengths[x, y] + lengths[y, z] == lengths[x, z]]


def needed(paper, table, told):
    if not is_right_by_hand(table) or 0 in dict(table.distances).values():
        return False
    if not is_tuple(told) or not all(isinstance(pair, str) for pair in told):
        return False
    if list(told) != [pair for pair in pairs(table.things) if not betweens(table, pair)]:
        return False
    others = [pair for pair in pairs(table.things) if betweens(table, pair)]
    if not is_tuple(paper, len(others)):
        return False
    for row, pair in zip(paper, others):
        if not is_tuple(row, 2) or not all(isinstance(part, str) for part in row):
            return False
        if row[0] != pair or row[1] not in betweens(table, pair):
            return False
    return True


def line(paper, table):
    if not is_tuple(paper, len(table)) or not all(whole(post, 0) for post in paper) or 0 not in paper:
        return False
    at = dict(zip(table.things, paper))
    return all(abs(at[x] - at[y]) == distance for (x, y), distance in table.distances)


def no_line(paper, table):
    lengths = lengths_of(table)
    if is_letters(paper, table.things, 3):
        x, y, z = sorted((lengths[paper[0], paper[1]], lengths[paper[1], paper[2]], lengths[paper[0], paper[2]]))
        return x + y != z
    if is_letters(paper, table.things, 4):
        a, c, b, d = paper
        near, wide = lengths[a, c], lengths[c, b]
        alike = near == lengths[b, d] and wide == lengths[a, d] and near and wide
        return bool(alike and lengths[a, b] == lengths[c, d] == near + wide)
    return False


def are_parts(paper, lots):
    if not is_tuple(paper):
        return False
    for row in paper:
        if not is_tuple(row, 2) or not isinstance(row[0], str) or row[0] not in lots or not whole(row[1], 1):
            return False
    return all(row < later for row, later in zip(paper, paper[1:]))


def adds_up(paper, table):
    return all(sum(number for lot, number in paper if splits(lot, pair)) == 2 * distance for pair, distance in table.distances)


def lots_of(things):
    return [lot for lot in subsets(things[1:])]


def crossing(things, one, two):
    return len({(thing in one, thing in two) for thing in things}) == 4


def clashing(things, three):
    for four in itertools.combinations(things, 4):
        beside = []
        for lot in three:
            mine = [thing for thing in four[1:] if (thing in lot) == (four[0] in lot)]
            beside.append(mine[0] if len(mine) == 1 else None)
        if set(beside) == set(four[1:]):
            return True
    return False


def tree(paper, table):
    if not are_parts(paper, lots_of(table.things)) or len({lot for lot, _ in paper}) != len(paper) or not adds_up(paper, table):
        return False
    return not any(crossing(table.things, one, two) for (one, _), (two, _) in itertools.combinations(paper, 2))


def total(paper, table):
    if not are_parts(paper, lots_of(table.things)) or len({lot for lot, _ in paper}) != len(paper) or not adds_up(paper, table):
        return False
    return not any(clashing(table.things, three) for three in itertools.combinations([lot for lot, _ in paper], 3))


def no_tree(paper, table):
    if not isinstance(paper, str) or len(paper) != 4 or not set(paper) <= set(table.things) or sorted(paper) != list(paper):
        return False
    lengths = lengths_of(table)
    t, u, v, w = paper
    sums = sorted((lengths[t, u] + lengths[v, w], lengths[t, v] + lengths[u, w], lengths[t, w] + lengths[u, v]))
    return sums[1] < sums[2]


def room(lengths, t, u, v, w):
    inner = lengths[t, u] + lengths[v, w]
    return max(inner, lengths[t, v] + lengths[u, w], lengths[t, w] + lengths[u, v]) - inner


def strength(paper, table, parting, number):
    if not is_parting(parting, table.things) or not isinstance(paper, str) or len(paper) != 4 or not set(paper) <= set(table.things):
        return False
    lengths = lengths_of(table)
    rest = [thing for thing in table.things if thing not in parting]
    least = min(room(lengths, *two, *others) for two in itertools.product(rest, rest) for others in itertools.product(parting, parting))
    sides = [thing in parting for thing in paper]
    return sides in ([True, True, False, False], [False, False, True, True]) and room(lengths, *paper) == number == least


def round_right(lengths, order):
    return not any(bad(lengths, four) for four in itertools.combinations(order, 4))


def bad(lengths, four):
    t, u, v, w = four
    return lengths[t, v] + lengths[u, w] < max(lengths[t, u] + lengths[v, w], lengths[u, v] + lengths[t, w])


def runs(order):
    size = len(order)
    found = []
    for start, many in itertools.product(range(1, size), range(1, size)):
        if start + many <= size:
            found.append("".join(sorted(order[start:start + many])))
    return found


def round_by(paper, table, order):
    if not isinstance(order, str) or order not in orders(table.things):
        return False
    if not are_parts(paper, runs(order)) or not adds_up(paper, table):
        return False
    assert is_right_by_hand(table) and round_right(lengths_of(table), order)
    return True


def no_round(paper, table):
    rows, lengths = orders(table.things), lengths_of(table)
    if not is_right_by_hand(table) or not is_tuple(paper, len(rows)):
        return False
    for four, order in zip(paper, rows):
        if not is_letters(four, order, 4) or list(four) != sorted(four, key=order.index) or not bad(lengths, four):
            return False
    return True


def trip_of(paper, table, number):
    return isinstance(paper, str) and paper in orders(table.things) and trip(lengths_of(table), paper) <= number


def trips(paper, table, number):
    lengths = lengths_of(table)
    if is_tuple(paper, 0):
        return min(trip(lengths, order) for order in orders(table.things)) >= number
    if not are_parts(paper, lots_of(table.things)) or sum(one for _, one in paper) < number:
        return False
    return all(sum(one for lot, one in paper if splits(lot, pair)) <= 2 * distance for pair, distance in table.distances)


def level(paper, table, pair, number):
    if not is_ascending(pair, table.things, 2) or not is_tuple(paper, 2):
        return False
    way, lot = paper
    lengths = lengths_of(table)
    if not is_way(way, table.things) or way[0] + way[-1] != pair or max(lengths[step] for step in zip(way, way[1:])) > number:
        return False
    if not is_ascending(lot, table.things) or pair[0] not in lot or pair[1] in lot:
        return False
    return all(lengths[x, y] >= number for x in lot for y in table.things if y not in lot)


def least_tree(paper, table, number):
    if not is_tuple(paper, len(table) - 1) or not all(is_ascending(pair, table.things, 2) for pair in paper):
        return False
    if list(paper) != sorted(set(paper)):
        return False
    sums = [sum(dict(table.distances)[pair] for pair in lot) for lot in all_trees(table.things)]
    return tuple(paper) in all_trees(table.things) and sum(dict(table.distances)[pair] for pair in paper) == min(sums) == number


TREES = {}


def all_trees(things):
    if things not in TREES:
        TREES[things] = [lot for lot in itertools.combinations(pairs(things), len(things) - 1) if hangs(things, lot)]
    return TREES[things]


def hangs(things, lot):
    met = {things[0]}
    for _ in things:
        met |= {thing for pair in lot if set(pair) & met for thing in pair}
    return met == set(things)


def crowd(paper, table):
    if not is_tuple(paper):
        return False
    for row in paper:
        if not is_tuple(row, 2) or not is_parting(row[0], table.things) or not is_tuple(row[1], 2):
            return False
        if not whole(row[1][0], 1) or not whole(row[1][1], 1) or Fraction(*row[1]).denominator != row[1][1]:
            return False
    names = [lot for lot, _ in paper]
    if names != sorted(set(names)):
        return False
    return all(sum(Fraction(*weight) for lot, weight in paper if splits(lot, pair)) == distance for pair, distance in table.distances)


def no_crowd(paper, table):
    if not is_tuple(paper, len(table.distances)) or not all(whole(number) for number in paper):
        return False
    rows = list(zip(paper, table.distances))
    if any(sum(number for number, (pair, _) in rows if splits(lot, pair)) > 0 for lot in lots_of(table.things)):
        return False
    return sum(number * distance for number, (_, distance) in rows) > 0


def is_pile(value, table):
    return is_tuple(value, len(table)) and all(whole(number, 0) and number <= 60 for number in value)


def cost(paper, table, first, second, number):
    if not is_pile(first, table) or not is_pile(second, table) or sum(first) != sum(second) or not is_tuple(paper, 2):
        return False
    plan, heights = paper
    if not is_tuple(plan) or not is_tuple(heights, len(table)) or not all(whole(one) for one in heights):
        return False
    for row in plan:
        if not is_tuple(row, 3) or not all(is_letters(thing, table.things, 1) for thing in row[:2]) or not whole(row[2], 1):
            return False
    goings = [row[:2] for row in plan]
    if goings != sorted(set(goings)) or {start for start, _ in goings} & {end for _, end in goings}:
        return False
    left = dict(zip(table.things, first))
    for start, end, amount in plan:
        left[start] -= amount
        left[end] += amount
    far = lengths_of(closed_by_hand(table))
    high = dict(zip(table.things, heights))
    falls = all(high[x] - high[y] <= far[x, y] for x in high for y in high)
    if tuple(left.values()) != second or min(heights) != 0 or not falls:
        return False
    gain = sum(height * (one - two) for height, one, two in zip(heights, first, second))
    return sum(amount * far[start, end] for start, end, amount in plan) == number == gain


def is_fraction(value):
    if not is_tuple(value, 2) or not whole(value[0]) or not whole(value[1], 1):
        return False
    return Fraction(*value).denominator == value[1]


def cap(paper, table, lifts):
    if not is_tuple(lifts, len(table)) or not all(is_fraction(lift) for lift in lifts):
        return False
    if not isinstance(paper, str) or len(paper) != len(table) or not set(paper) <= set(table.things):
        return False
    lift, lengths = {thing: Fraction(*one) for thing, one in zip(table.things, lifts)}, lengths_of(table)
    if any(lift[x] + lift[y] < lengths[x, y] for x in lift for y in lift):
        return False
    return all(lift[x] + lift[y] == lengths[x, y] for x, y in zip(table.things, paper))


def radius(paper, table, half):
    spread = max(dict(table.distances).values())
    if not is_fraction(half) or Fraction(*half) != Fraction(spread, 2):
        return False
    return is_ascending(paper, table.things, 2) and dict(table.distances)[paper] == spread


def agree(table, other, row):
    new, lengths = dict(zip(table.things, row)), lengths_of(other)
    return all(lengths[new[x], new[y]] == distance for (x, y), distance in table.distances)


def alike(paper, table, other):
    return len(table) == len(other) and is_letters(paper, other.things, len(other)) and agree(table, other, paper)


def unlike(paper, table, other):
    if not is_tuple(paper, 0):
        return False
    return len(table) != len(other) or not any(agree(table, other, row) for row in itertools.permutations(other.things))


def known(sheet):
    lengths = {}
    for (x, y), distance in sheet.distances:
        if distance is not None:
            lengths[x, y] = lengths[y, x] = distance
    return lengths


def torn(paper, sheet):
    lengths = known(sheet)
    if not is_tuple(paper, 2) or not is_ascending(paper[0], sheet.things, 2) or tuple(paper[0]) not in lengths:
        return False
    pair, way = paper
    if not is_way(way, sheet.things) or way[0] + way[-1] != pair or any(step not in lengths for step in zip(way, way[1:])):
        return False
    return length(lengths, way) < lengths[tuple(pair)]


def span(paper, sheet, pair, least, greatest):
    if not is_tuple(paper, 0) or not is_ascending(pair, sheet.things, 2):
        return False
    lengths = known(sheet)
    far = {(x, x): 0 for x in sheet.things}
    far.update(lengths)
    for y, x, z in itertools.product(sheet.things, repeat=3):
        if (x, y) in far and (y, z) in far:
            far[x, z] = min(far.get((x, z), 10 ** 9), far[x, y] + far[y, z])
    if any(far[step] < distance for step, distance in lengths.items()):
        return False
    x, y = pair
    bounds = [0]
    for (a, b), distance in lengths.items():
        if (a, x) in far and (y, b) in far:
            bounds.append(distance - far[a, x] - far[y, b])
    return (max(bounds), min(1000000, far.get((x, y), 1000000))) == (least, greatest)


KINDS = {
    "right": (right, "T"), "long": (too_long, "T"), "closed": (closed, "TT"), "makes": (makes, "VT"), "needed": (needed, "T."),
    "line": (line, "T"), "no line": (no_line, "T"), "tree": (tree, "T"), "no tree": (no_tree, "T"), "sum": (total, "T"),
    "strength": (strength, "T.N"), "round": (round_by, "T."), "no round": (no_round, "T"), "trip": (trip_of, "TN"),
    "trips": (trips, "TN"), "level": (level, "T.N"), "least tree": (least_tree, "TN"), "crowd": (crowd, "T"),
    "no crowd": (no_crowd, "T"), "cost": (cost, "T..N"), "cap": (cap, "T."), "radius": (radius, "T."), "alike": (alike, "TT"),
    "unlike": (unlike, "TT"), "torn": (torn, "S"), "span": (span, "S.NN"),
}


def accepted(claim, paper):
    """What accepts should return."""
    if not is_tuple(claim) or not claim or not isinstance(claim[0], str) or claim[0] not in KINDS:
        return False
    look, kinds = KINDS[claim[0]]
    if len(claim) != len(kinds) + 1:
        return False
    told = []
    for kind, value in zip(kinds, claim[1:]):
        try:
            told.append({"T": Table, "V": Web, "S": Sheet}[kind].told(value) if kind in "TVS" else value)
        except InvalidText:
            return False
        if kind == "N" and not whole(value):
            return False
    return look(paper, *told)
