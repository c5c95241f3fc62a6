"""Hidden distances: what the unknown distances of a sheet can be, so that all is a right table."""

from itertools import combinations

from nearandfar.basics import both_ways, check_pair, least_lengths
from nearandfar.errors import InvalidNumber, TooMany, Torn
from nearandfar.limits import MOST_DISTANCE
from nearandfar.sheets import check_sheet
from nearandfar.tables import check_table, is_distance, table_of
from nearandfar.ways import is_right, plain_ways

MOST_TO_SETTLE = 8


def known_rows(sheet):
    """List the pairs (PAIR, DISTANCE) that are known."""
    return [(pair, far) for pair, far in sheet.distances if far is not None]


def least_known(sheet):
    """Return a dict of the lengths of shortest known ways, for each two things that one joins, either way."""
    return least_lengths(sheet.things, both_ways(sheet.things, known_rows(sheet)))


def shortest_known_way(sheet, pair):
    """Return the first shortest known way from the lesser thing of a pair to the other one, None if there is none."""
    steps = both_ways(sheet.things, known_rows(sheet))
    lengths = {}
    for way in plain_ways(sheet.things, pair[0], pair[1]):
        passed = [here + there for here, there in zip(way, way[1:])]
        if all([step in steps for step in passed]):
            lengths[way] = sum([steps[step] for step in passed])
    return min(lengths, key=lambda way: lengths[way], default=None)


def trouble(sheet):
    """Return the first known pair that is farther than a known way, and such a way; None if there is none."""
    check_sheet(sheet)
    least = least_known(sheet)
    for pair, far in known_rows(sheet):
        if least[pair] < far:
            return pair, shortest_known_way(sheet, pair)
    return None


def check_whole(sheet):
    """Raise Torn for a sheet that has no filling."""
    found = trouble(sheet)
    if found is not None:
        raise Torn(found)


def fills(sheet, table):
    """Tell whether a table is a filling of a sheet."""
    check_sheet(sheet)
    check_table(table)
    if sheet.things != table.things or not is_right(table):
        return False
    return all([far in (None, told) for (_, far), (_, told) in zip(sheet.distances, table.distances)])


def greatest_by(least, pair):
    """Return the greatest distance of a pair in all fillings, by the lengths of shortest known ways."""
    return min(MOST_DISTANCE, least.get(pair, MOST_DISTANCE))


def least_by(sheet, least, pair):
    """Return the least distance of a pair in all fillings, by the lengths of shortest known ways."""
    bounds = [0]
    for (here, there), far in known_rows(sheet):
        for start, end in ((here, there), (there, here)):
            if start + pair[0] in least and pair[1] + end in least:
                bounds.append(far - least[start + pair[0]] - least[pair[1] + end])
    return max(bounds)


def span_by(sheet, least, pair):
    """Return the least and the greatest distance of a pair, by the lengths of shortest known ways."""
    # For a known pair both are the known distance: it is a shortest known way and bounds itself.
    return least_by(sheet, least, pair), greatest_by(least, pair)


def span(sheet, pair):
    """Return the least and the greatest distance of a pair in all fillings."""
    check_sheet(sheet)
    check_pair(sheet.things, pair)
    check_whole(sheet)
    return span_by(sheet, least_known(sheet), pair)


def forced(sheet):
    """Return the ascending tuple of all unknown pairs that have the same distance in all fillings."""
    check_sheet(sheet)
    check_whole(sheet)
    return forced_pairs(sheet)


def forced_pairs(sheet):
    """Return the ascending tuple of the unknown pairs of a sheet, not torn, for which just one distance is left."""
    least = least_known(sheet)
    spans = [(pair, span_by(sheet, least, pair)) for pair in sheet.unknown]
    return tuple([pair for pair, (lowest, highest) in spans if lowest == highest])


def greatest_filling(sheet):
    """Return the greatest filling."""
    check_sheet(sheet)
    check_whole(sheet)
    least = least_known(sheet)
    return table_of(sheet.things, {pair: greatest_by(least, pair) for pair, _ in sheet.distances})


def filling_with(sheet, pair, distance):
    """Return a filling with this distance of a pair; None if there is none."""
    check_sheet(sheet)
    check_pair(sheet.things, pair)
    if not is_distance(distance):
        raise InvalidNumber(distance)
    lowest, highest = span(sheet, pair)
    if not lowest <= distance <= highest:
        return None
    return greatest_filling(sheet.told_more(pair, distance))


def lead(sheet, pair, other):
    """Return the least and the greatest difference of the distances of two pairs in all fillings."""
    check_sheet(sheet)
    check_pair(sheet.things, pair)
    check_pair(sheet.things, other)
    check_whole(sheet)
    return -greatest_lead(sheet, other, pair), greatest_lead(sheet, pair, other)


def greatest_lead(sheet, pair, other):
    """Return the greatest difference of the distance of a pair less that of another one, in all fillings."""
    nearest, _ = span(sheet, other)
    _, farthest = span(sheet.told_more(other, nearest), pair)
    return farthest - nearest


def known_way(sheet, pair):
    """Return a shortest known way from the lesser thing of a pair to the other one; None if there is none."""
    check_sheet(sheet)
    check_pair(sheet.things, pair)
    check_whole(sheet)
    return shortest_known_way(sheet, pair)


def settling(sheet, table):
    """Return all lots of unknown pairs that settle a sheet for a filling, of which no part does, the shortest ahead."""
    if not fills(sheet, table):
        raise Torn(None)
    unknown = sheet.unknown
    if len(unknown) > MOST_TO_SETTLE:
        raise TooMany(len(unknown))
    found = []
    for size in range(len(unknown) + 1):
        for lot in combinations(unknown, size):
            if not has_part(found, lot) and settles(sheet, table, lot):
                found.append(lot)
    return tuple(found)


def has_part(found, lot):
    """Tell whether all pairs of one of some lots are in a lot."""
    return any([all([pair in lot for pair in part]) for part in found])


def settles(sheet, table, lot):
    """Tell whether with the distances that a lot of pairs has in a filling just one is left for each unknown pair."""
    for pair in lot:
        sheet = sheet.told_more(pair, table.far(pair[0], pair[1]))
    return forced_pairs(sheet) == sheet.unknown
