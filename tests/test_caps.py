"""Caps, held against [34] done thing by thing, against systems of equations, and against the pieces of the web of mates."""

import itertools
import random
import unittest
from fractions import Fraction

from nearandfar.caps import cap_of, corners, gap, is_cap, is_corner, is_roof, lowered, mates, middle_cap, radius, under
from nearandfar.errors import InvalidLifts, InvalidThing, NotATable, NotRight, TooMany, UnknownThing
from nearandfar.tables import Table
from nearandfar.trees import pieces, places
from nearandfar.ways import long_three
from tests.drawn import drawn_trees
from tests.support import (
    CHAIN, CLOCK, FORK, KNOT, LANE, LOOSE, SQUARE, TWIN, Likeable, Touchy, expect, expect_in_order, far, given, is_right_by_hand,
    lengths_of, line_table, make, many_tables, no_tables, no_things_of, odd_values, random_tables, ring_table,
)

ONES = ((1, 1),) * 4


def told(fractions):
    """Fractions as the package tells them."""
    return tuple((one.numerator, one.denominator) for one in fractions)


def drawn_roof(chance, table, bottom):
    """A roof: some lifts, each made greater as far as its distances from those ahead need it."""
    lengths = lengths_of(table)
    greatest = max(lengths.values()) + 2
    lifts = []
    for thing in table.things:
        lift = Fraction(chance.randint(0, greatest * bottom), bottom)
        for other, ahead in zip(table.things, lifts):
            lift = max(lift, lengths[thing, other] - ahead)
        lifts.append(lift)
    return lifts


def lowered_by_hand(table, lifts):
    lengths, low = lengths_of(table), list(lifts)
    for at, thing in enumerate(table.things):
        bounds = [lengths[thing, other] - low[place] for place, other in enumerate(table.things) if place != at]
        low[at] = max([Fraction(0)] + bounds)
    return low


def is_roof_by_hand(table, lifts):
    lengths = lengths_of(table)
    return all(
        lifts[x] + lifts[y] >= lengths[one, other]
        for x, one in enumerate(table.things) for y, other in enumerate(table.things)
    )


def mates_by_hand(table, lifts):
    lengths = lengths_of(table)
    lift = dict(zip(table.things, lifts))
    return {one: "".join(other for other in table.things if lift[one] + lift[other] == lengths[one, other]) for one in table.things}


def is_corner_by_hand(table, lifts):
    """No piece of the web of mates can be told by two colours, each mate by the other one."""
    found = mates_by_hand(table, lifts)
    left = list(table.things)
    while left:
        colours, waiting, odd = {left[0]: 0}, [left[0]], False
        while waiting:
            here = waiting.pop()
            for other in found[here]:
                if other not in colours:
                    colours[other] = 1 - colours[here]
                    waiting.append(other)
                odd = odd or colours[other] == colours[here]
        if not odd:
            return False
        left = [thing for thing in left if thing not in colours]
    return True


def solved(rows, size):
    """The one solution of equations (COEFFICIENTS, SIDE), None if there is not just one."""
    rows = [[Fraction(number) for number in row] + [Fraction(side)] for row, side in rows]
    for column in range(size):
        pivot = next((at for at in range(column, len(rows)) if rows[at][column] != 0), None)
        if pivot is None:
            return None
        rows[column], rows[pivot] = rows[pivot], rows[column]
        rows[column] = [number / rows[column][column] for number in rows[column]]
        for at in range(len(rows)):
            if at != column:
                rows[at] = [number - rows[at][column] * above for number, above in zip(rows[at], rows[column])]
    return [row[-1] for row in rows]


def corners_by_hand(table):
    """All roofs for which as many sums as there are things are just enough, and tell all lifts."""
    size, lengths = len(table), lengths_of(table)
    sides = [(x, y) for x in range(size) for y in range(x, size)]
    found = set()
    for lot in itertools.combinations(sides, size):
        rows = []
        for x, y in lot:
            row = [0] * size
            row[x] += 1
            row[y] += 1
            rows.append((row, lengths[table.things[x], table.things[y]]))
        lifts = solved(rows, size)
        if lifts is not None and is_roof_by_hand(table, lifts):
            found.add(tuple(lifts))
    return [told(lifts) for lifts in sorted(found)]


def cases(seed):
    chance = random.Random(seed)
    for table in many_tables():
        for bottom in (1, 2, 3, 10):
            yield table, drawn_roof(chance, table, bottom)


def no_lifts():
    """Values that are no lifts of four things, so neither a roof nor a cap."""
    return odd_values() + [
        (), ONES[:3], ONES * 2, list(ONES), [list(lift) for lift in ONES], tuple(list(lift) for lift in ONES), (1, 1, 1, 1),
        ((2, 2),) + ONES[1:], ONES[:3] + ((4, 2),), ((0, 2),) + ONES[1:], ((1, 0),) + ONES[1:], ((0, 0),) * 4, ((2, 0),) * 4,
        ((1, -1),) * 4, ((-1, -1),) * 4, ((True, 1),) + ONES[1:], ((1, True),) + ONES[1:], ONES[:3] + ((1, 1, 1),),
        ONES[:3] + ((1,),), ONES[:3] + (None,), ONES[:3] + ("11",), (Touchy(),) + ONES[1:], (Likeable(),) * 4,
        ((Likeable(), 1),) + ONES[1:], ((Touchy(), 1),) + ONES[1:], ((1, Touchy()),) + ONES[1:], {1: 1, 2: 2, 3: 3, 4: 4}, "1111",
        ((10 ** 60, 10 ** 61),) * 4, ((False, 1), (2, 1), (2, 1), (2, 1)), ((-1, 1), (9, 1), (9, 1), (9, 1)),
    ]


class TestRoofs(unittest.TestCase):
    def test_right_and_wrong_lifts(self):
        for table, lifts in cases(101):
            self.assertIs(True, is_roof(table, told(lifts)))
            self.assertIs(is_roof_by_hand(table, lifts), is_roof(lifts=told(lifts), table=table))
            found = mates_by_hand(table, lifts)
            self.assertIs(all(found.values()), is_cap(table, told(lifts)))
            self.assertIs(all(found.values()), is_cap(lifts=told(lifts), table=table))
            for at in range(len(table)):
                less = list(lifts)
                less[at] = less[at] - Fraction(1, 7)
                self.assertIs(is_roof_by_hand(table, less), is_roof(table, told(less)))

    def test_any_value(self):
        for value in no_lifts():
            self.assertIs(False, is_roof(SQUARE, value))
            self.assertIs(False, is_cap(SQUARE, value))
        for call in (is_roof, is_cap):
            self.assertIs(True, call(SQUARE, ONES))
            self.assertIs(False, call(SQUARE, ((1, 2),) * 4))
            expect_in_order(self, call, {"table": SQUARE, "lifts": ONES}, {"table": given(NotATable, no_tables())})
        self.assertEqual((True, False), (is_roof(SQUARE, ((2, 1),) * 4), is_cap(SQUARE, ((2, 1),) * 4)))
        # A thing that is its own mate, and twins.
        self.assertIs(True, is_cap(TWIN, ((0, 1), (0, 1), (4, 1))))
        self.assertIs(False, is_cap(TWIN, ((4, 1), (4, 1), (0, 1), (0, 1))))
        self.assertIs(True, is_cap(make("xy", lambda x, y: 3), ((10, 7), (11, 7))))

    def test_great_numbers(self):
        great = 10 ** 50
        table = make("xy", lambda x, y: 1000000)
        exact = ((great, 2 * great + 1), (1000000 * (2 * great + 1) - great, 2 * great + 1))
        self.assertEqual((True, True), (is_roof(table, exact), is_cap(table, exact)))
        above = (exact[0], *told([Fraction(*exact[1]) + Fraction(1, 10 ** 60)]))
        self.assertEqual((True, False), (is_roof(table, above), is_cap(table, above)))


class TestLowered(unittest.TestCase):
    def test_drawn_roofs(self):
        for table, lifts in cases(103):
            low = lowered(table, told(lifts))
            self.assertEqual(told(lowered_by_hand(table, lifts)), low)
            self.assertEqual(low, lowered(lifts=told(lifts), table=table))
            self.assertTrue(is_cap(table, low))
            self.assertEqual(low, lowered(table, low))
            self.assertTrue(all(Fraction(*one) <= two for one, two in zip(low, lifts)))

    def test_mates(self):
        for table, lifts in cases(105):
            low = lowered_by_hand(table, lifts)
            found = mates_by_hand(table, low)
            for thing in table.things:
                self.assertEqual(found[thing], mates(table, told(low), thing))
                self.assertEqual(found[thing], mates(thing=thing, lifts=told(low), table=table))

    def test_errors(self):
        tables = given(NotATable, no_tables())
        low = given(InvalidLifts, no_lifts() + [((1, 2),) * 4, ((1, 1), (1, 1), (1, 2), (1, 1))])
        expect_in_order(self, lowered, {"table": SQUARE, "lifts": ((2, 1),) * 4}, {"table": tables, "lifts": low})
        no_caps = low + given(InvalidLifts, [((2, 1),) * 4, ((1, 1), (1, 1), (1, 1), (3, 2))])
        expect_in_order(self, is_corner, {"table": SQUARE, "lifts": ONES}, {"table": tables, "lifts": no_caps})
        expect_in_order(self, mates, {"table": SQUARE, "lifts": ONES, "thing": "a"}, {
            "table": tables, "lifts": no_caps, "thing": given(UnknownThing, no_things_of("abcd")),
        })
        expect_in_order(self, gap, {"table": SQUARE, "lifts": ONES, "other_lifts": ONES}, {
            "table": tables, "lifts": no_caps, "other_lifts": no_caps,
        })


class TestOwnCaps(unittest.TestCase):
    def test_own_caps(self):
        chance = random.Random(7)
        for table in many_tables():
            if not is_right_by_hand(table):
                for thing in table.things:
                    expect(self, NotRight, {"given": long_three(table)}, cap_of, table, thing)
                continue
            caps = {thing: cap_of(table, thing) for thing in table.things}
            for thing in table.things:
                self.assertEqual(tuple((far(table, thing, other), 1) for other in table.things), caps[thing])
                self.assertEqual(caps[thing], cap_of(thing=thing, table=table))
                self.assertTrue(is_cap(table, caps[thing]) and is_corner(table, caps[thing]))
                for other in table.things:
                    self.assertEqual((far(table, thing, other), 1), gap(table, caps[thing], caps[other]))
            low = lowered(table, told(drawn_roof(chance, table, 4)))
            for at, thing in enumerate(table.things):
                self.assertEqual(low[at], gap(table, low, caps[thing]))
                self.assertEqual(low[at], gap(other_lifts=low, lifts=caps[thing], table=table))

    def test_gaps(self):
        chance = random.Random(8)
        for table in many_tables():
            one, two = (lowered_by_hand(table, drawn_roof(chance, table, 6)) for _ in range(2))
            widest = max(abs(x - y) for x, y in zip(one, two))
            self.assertEqual((widest.numerator, widest.denominator), gap(table, told(one), told(two)))
        self.assertEqual((0, 1), gap(SQUARE, ONES, ONES))

    def test_errors(self):
        expect_in_order(self, cap_of, {"table": SQUARE, "thing": "a"}, {
            "table": given(NotATable, no_tables()), "thing": given(UnknownThing, no_things_of("abcd")),
        })
        expect(self, UnknownThing, {"given": "z"}, cap_of, LOOSE, "z")


class TestCorners(unittest.TestCase):
    def test_is_corner(self):
        seen = {True: 0, False: 0}
        for table, lifts in cases(107):
            low = lowered_by_hand(table, lifts)
            seen[is_corner_by_hand(table, low)] += 1
            self.assertIs(is_corner_by_hand(table, low), is_corner(table, told(low)))
            self.assertIs(is_corner_by_hand(table, low), is_corner(lifts=told(low), table=table))
        self.assertTrue(min(seen.values()) > 30, seen)

    def test_corners_are_those_of_the_equations(self):
        tables = [LANE, SQUARE, CLOCK, LOOSE, TWIN, FORK, KNOT] + random_tables(109, (2, 3, 4), 7, 5) + random_tables(110, (5,), 9, 2)
        tables += [make("abcde", lambda x, y: 0), make("abcd", lambda x, y: 5), ring_table("abcde", (1, 1, 1, 1, 1))]
        tables += random_tables(111, (3, 4), 1000000, 2)
        for table in tables:
            self.assertEqual(corners_by_hand(table), list(corners(table)), str(table))

    def test_each_is_a_corner(self):
        for table in many_tables():
            if len(table) > 5:
                continue
            found = corners(table=table)
            self.assertEqual(found, corners(table))
            numbers = [[Fraction(*lift) for lift in lifts] for lifts in found]
            self.assertTrue(all(one < two for one, two in zip(numbers, numbers[1:])))
            for lifts in found:
                self.assertTrue(is_cap(table, lifts) and is_corner(table, lifts))
            if is_right_by_hand(table):
                self.assertLessEqual({cap_of(table, thing) for thing in table.things}, set(found))

    def test_of_trees(self):
        # The corners over the table of a tree are the distances from its places.
        for tree in drawn_trees():
            table = tree.table()
            if len(table) <= 5:
                rows = {tuple(Fraction(tree.doubled(place, tree.at[x]), 2) for x in table.things) for place in tree.places()}
                self.assertEqual(sorted(rows), [tuple(Fraction(*lift) for lift in lifts) for lifts in corners(table)])
                self.assertEqual(len(places(table)), len(corners(table)))
        self.assertEqual(7, len(pieces(FORK)))

    def test_two_things(self):
        self.assertEqual((((0, 1), (3, 1)), ((3, 1), (0, 1))), corners(make("xy", lambda x, y: 3)))
        self.assertEqual((((0, 1), (0, 1)),), corners(make("xy", lambda x, y: 0)))
        self.assertEqual(((7, 2),) * 3, middle_cap(make("xyz", lambda x, y: 7)))
        self.assertIn(((7, 2),) * 3, corners(make("xyz", lambda x, y: 7)))

    def test_errors(self):
        expect_in_order(self, corners, {"table": SQUARE}, {"table": given(NotATable, no_tables())})
        for table in random_tables(113, (6, 7), 5, 3) + [CHAIN]:
            expect(self, TooMany, {"given": len(table)}, corners, table)


class TestTheMiddle(unittest.TestCase):
    def test_radius(self):
        for table in many_tables():
            half = Fraction(max(distance for _, distance in table.distances), 2)
            self.assertEqual((half.numerator, half.denominator), radius(table))
            self.assertEqual(radius(table), radius(table=table))
            middle = middle_cap(table)
            self.assertEqual(told(lowered_by_hand(table, [half] * len(table))), middle)
            self.assertEqual(middle, middle_cap(table=table))
            self.assertTrue(is_cap(table, middle))
            self.assertEqual(half, max(Fraction(*lift) for lift in middle))

    def test_radius_is_the_least(self):
        for table, lifts in cases(115):
            self.assertLessEqual(Fraction(*radius(table)), max(lowered_by_hand(table, lifts)))

    def test_errors(self):
        for call in (radius, middle_cap):
            expect_in_order(self, call, {"table": SQUARE}, {"table": given(NotATable, no_tables())})


class TestUnder(unittest.TestCase):
    def test_grown_tables(self):
        chance = random.Random(9)
        for table in many_tables():
            low = lowered_by_hand(table, drawn_roof(chance, table, 1))
            letter = chance.choice([letter for letter in "abcdefghijklmnopqrstuvwxyz" if letter not in table.things])
            if len(table) == 7:
                expect(self, TooMany, {"given": 8}, under, table, letter, told(low))
                continue
            made = under(table, letter, told(low))
            self.assertEqual("".join(sorted(table.things + letter)), made.things)
            self.assertEqual(list(low), [made.far(thing, letter) for thing in table.things])
            self.assertEqual(table, made.without(letter) if len(made) > 2 else table)
            self.assertEqual(made, under(lifts=told(low), letter=letter, table=table))

    def test_errors(self):
        letters = odd_values() + ["a", "b", "d", "ab", "zz", "Z", "", " ", ("z",), 1]
        lifts = no_lifts() + [((2, 1),) * 4, ((1, 2), (3, 2), (3, 2), (1, 2)), ((1, 2),) * 4]
        self.assertTrue(is_cap(SQUARE, ((1, 2), (1, 2), (3, 2), (3, 2))))
        lifts.append(((1, 2), (1, 2), (3, 2), (3, 2)))
        expect_in_order(self, under, {"table": SQUARE, "letter": "z", "lifts": ONES}, {
            "table": given(NotATable, no_tables()), "letter": given(InvalidThing, letters), "lifts": given(InvalidLifts, lifts),
        })
        full = line_table("abcdefg", (0, 1, 2, 3, 4, 5, 6))
        expect(self, InvalidThing, {"given": "a"}, under, full, "a", cap_of(full, "a"))
        expect(self, InvalidLifts, {"given": ONES}, under, full, "z", ONES)
        expect(self, TooMany, {"given": 8}, under, full, "z", cap_of(full, "a"))

    def test_own_caps_make_twins(self):
        self.assertEqual(Table.told("abcdz\nab 1\nac 2\nad 1\naz 1\nbc 1\nbd 2\nbz 0\ncd 1\ncz 1\ndz 2"), under(SQUARE, "z", cap_of(SQUARE, "b")))
