"""What several modules need: kinds of values, pairs and lots of letters, checks of arguments."""

from itertools import combinations
from math import gcd

from nearandfar.errors import InvalidPair, InvalidParting, InvalidParts, InvalidText, InvalidThings, UnknownThing
from nearandfar.limits import LEAST_THINGS, MOST_THINGS

LETTERS = "abcdefghijklmnopqrstuvwxyz"
DIGITS = "0123456789"
MOST_DIGITS = 7
MOST_DOUBLED = 2000000


def is_integer(value):
    """Tell whether any value is an integer; True and False are none."""
    return isinstance(value, int) and not isinstance(value, bool)


def is_integer_within(value, least, most):
    """Tell whether any value is an integer from least to most."""
    return is_integer(value) and least <= value <= most


def is_fraction(value):
    """Tell whether any value is a fraction."""
    if not isinstance(value, tuple) or len(value) != 2 or not is_integer(value[0]) or not is_integer(value[1]):
        return False
    return value[1] > 0 and gcd(value[0], value[1]) == 1


def lowest(top, bottom):
    """Return the fraction of two integers, the second one above 0."""
    divisor = gcd(top, bottom)
    return top // divisor, bottom // divisor


def sum_of(fractions):
    """Return the sum of fractions as a fraction."""
    total = (0, 1)
    for top, bottom in fractions:
        total = lowest(total[0] * bottom + top * total[1], total[1] * bottom)
    return total


def difference(one, other):
    """Return one fraction less another one, as a fraction."""
    return sum_of([one, (-other[0], other[1])])


def greatest_of(fractions):
    """Return the greatest of some fractions."""
    greatest = fractions[0]
    for top, bottom in fractions:
        if top * greatest[1] > greatest[0] * bottom:
            greatest = (top, bottom)
    return greatest


def is_lot(value, letters):
    """Tell whether any value is an ascending string, perhaps empty, of some of these ascending letters."""
    return isinstance(value, str) and value == "".join([letter for letter in letters if letter in value])


def is_letter(value, letters):
    """Tell whether any value is a single one of these ascending letters."""
    return is_lot(value, letters) and len(value) == 1


def is_pair(value, letters):
    """Tell whether any value is an ascending string of two of these ascending letters."""
    return is_lot(value, letters) and len(value) == 2


def is_parting(value, things):
    """Tell whether any value is a lot of things, not empty, in which the least one is not."""
    return is_lot(value, things[1:]) and len(value) > 0


def check_things(things):
    """Raise InvalidThings for what are no things of a table."""
    if not (is_lot(things, LETTERS) and LEAST_THINGS <= len(things) <= MOST_THINGS):
        raise InvalidThings(things)


def check_thing(things, thing):
    """Raise UnknownThing for what is none of these things."""
    if not is_letter(thing, things):
        raise UnknownThing(thing)


def check_pair(things, pair):
    """Raise InvalidPair for what is no pair of these things."""
    if not is_pair(pair, things):
        raise InvalidPair(pair)


def check_parting(things, parting):
    """Raise InvalidParting for what is no parting of these things."""
    if not is_parting(parting, things):
        raise InvalidParting(parting)


def lots_of(letters, least):
    """List all lots of these ascending letters, from the number least on, in ascending order."""
    return sorted(["".join(lot) for size in range(least, len(letters) + 1) for lot in combinations(letters, size)])


def pairs_of(letters):
    """List all pairs of these ascending letters in ascending order."""
    return [first + second for first, second in combinations(letters, 2)]


def is_parted(parting, pair):
    """Tell whether just one of the two of a pair is in the lot."""
    return (pair[0] in parting) != (pair[1] in parting)


def other_lot(things, lot):
    """Return the ascending string of the things that are not in a lot."""
    return "".join([thing for thing in things if thing not in lot])


def twos_of(lot):
    """List all two things of a lot, in whichever order once, and each thing beside itself."""
    return [(lot[at], other) for at in range(len(lot)) for other in lot[at:]]


def do_cross(things, parting, other_parting):
    """Tell whether each lot of the one parting has a thing in common with each lot of the other one."""
    lots = (parting, other_lot(things, parting))
    other_lots = (other_parting, other_lot(things, other_parting))
    return all([any([thing in others for thing in lot]) for lot in lots for others in other_lots])


def is_part(value, lots, most):
    """Tell whether any value is a pair of one of these lots and an integer from 1 to most."""
    if not isinstance(value, tuple) or len(value) != 2:
        return False
    return isinstance(value[0], str) and value[0] in lots and is_integer_within(value[1], 1, most)


def check_parts(things, parts, lots, most, fits):
    """Raise InvalidParts for what is no tuple of pairs of ascending ones of these lots and integers from 1 to most.

    fits tells, of the things, a list of lots and a further lot, whether this may stand behind them.
    """
    if not isinstance(parts, tuple):
        raise InvalidParts(None)
    ahead = []
    for index, part in enumerate(parts):
        if not is_part(part, lots, most) or part[0] <= max(ahead, default="") or not fits(things, ahead, part[0]):
            raise InvalidParts(index)
        ahead.append(part[0])


def fits_always(things, ahead, lot):
    """Tell check_parts that a lot may stand behind any that are less."""
    return True


def parted_sums(things, parts):
    """Return a dict, by pairs, of the sums of the numbers of those of pairs (PARTING, NUMBER) that part the pair."""
    pairs = pairs_of(things)
    return {pair: sum([number for parting, number in parts if is_parted(parting, pair)]) for pair in pairs}


def both_ways(places, rows):
    """Return a dict of the lengths of pairs (PAIR, LENGTH), for PAIR either way, and of 0 for each place."""
    lengths = {place + place: 0 for place in places}
    for pair, length in rows:
        lengths[pair] = length
        lengths[pair[::-1]] = length
    return lengths


def least_lengths(places, steps):
    """Return a dict of the least lengths, made of steps, for each two places that steps join."""
    least = {step: steps[step] for step in steps}
    for middle in places:
        for start in places:
            for end in places:
                ahead, behind, whole = start + middle, middle + end, start + end
                if ahead in least and behind in least:
                    length = least[ahead] + least[behind]
                    least[whole] = min(length, least.get(whole, length))
    return least


def read_rows(text, blank):
    """Return the first line of a text, and the tuple of its rows as pairs (WORD, NUMBER).

    blank is a sign that stands for None in the place of a number; with None there is no such sign.
    """
    if not isinstance(text, str):
        raise InvalidText(text)
    head, *lines = text.split("\n")
    rows = []
    for line in lines:
        word, _, digits = line.partition(" ")
        if digits != blank and not is_written_number(digits):
            raise InvalidText(text)
        rows.append((word, None if digits == blank else int(digits)))
    return head, tuple(rows)


def is_written_number(word):
    """Tell whether a word is a number from 0 on as Python writes it, of few digits."""
    # Signs, blanks, needless zeros and digits of other scripts are read by int, too, but a text has none.
    plain = all([sign in DIGITS for sign in word]) and 1 <= len(word) <= MOST_DIGITS
    return plain and (word == "0" or not word.startswith("0"))


def written(head, rows):
    """Return the text of which read_rows returns this head and these rows."""
    return "\n".join([head, *[f"{word} {number}" for word, number in rows]])


def feasible_frame(columns, sides):
    """Return a frame for numbers from 0 on, one for each column, by which the columns add up to the sides.

    There must be such numbers, and no side is below 0. A frame is a triple (ROWS, BASE, SCALE): the equations,
    solved for the columns whose indexes stand in BASE and multiplied by SCALE. Behind the columns stand helping
    ones, one for each equation, and the sides.
    """
    many, size = len(columns), len(sides)
    rows = []
    for at, side in enumerate(sides):
        rows.append([column[at] for column in columns] + [1 if at == other else 0 for other in range(size)] + [side])
    frame = (rows, list(range(many, many + size)), 1)
    return expelled(best_frame(frame, [0] * many + [1] * size, many), many)


def best_frame(frame, costs, many):
    """Return a frame for the numbers that cost the least, without other columns than the first many and those in it."""
    column = gainful(frame, costs, many)
    while column is not None:
        frame = pivoted(frame, narrowest(frame, column), column)
        column = gainful(frame, costs, many)
    return frame


def gainful(frame, costs, many):
    """Return the first column that makes the numbers cheaper, or None. (The first one: so no frame comes again.)"""
    rows, base, scale = frame
    dear = [(costs[index], row) for index, row in zip(base, rows) if costs[index] != 0]
    for column in range(many):
        if costs[column] * scale < sum([cost * row[column] for cost, row in dear]):
            return column
    return None


def narrowest(frame, column):
    """Return the index of the row that keeps the number of a column the least; of several that with the least base."""
    rows, base, _ = frame
    narrow = [(row[-1], row[column], base[at], at) for at, row in enumerate(rows) if row[column] > 0]
    best = narrow[0]
    for one in narrow:
        if is_narrower(one, best):
            best = one
    return best[3]


def is_narrower(one, other):
    """Tell whether of two tuples (TOP, BOTTOM, INDEX ..) the first one has the lesser fraction, or the lesser index."""
    here, there = one[0] * other[1], other[0] * one[1]
    return here < there or (here == there and one[2] < other[2])


def pivoted(frame, at, column):
    """Return the frame with a column in the place of that for which a row is solved."""
    rows, base, scale = frame
    chosen = rows[at] if rows[at][column] > 0 else [-number for number in rows[at]]
    pivot = chosen[column]
    changed = []
    for row in rows:
        # All numbers of a frame are determinants out of its equations: the division leaves nothing.
        changed.append([(pivot * number - row[column] * above) // scale for number, above in zip(row, chosen)])
    return changed[:at] + [chosen] + changed[at + 1:], base[:at] + [column] + base[at + 1:], pivot


def expelled(frame, many):
    """Return the frame without other columns than the first many; those that are in it have the number 0."""
    for at in range(len(frame[0])):
        if frame[1][at] >= many:
            row = frame[0][at]
            frame = pivoted(frame, at, [column for column in range(many) if row[column] != 0][0])
    return frame


def number_in(frame, column):
    """Return the number that a column has, as a fraction."""
    rows, base, scale = frame
    for index, row in zip(base, rows):
        if index == column:
            return lowest(row[-1], scale)
    return 0, 1
