"""Ways, held against going through all of them."""

import itertools
import unittest

from nearandfar.errors import HasTwins, InvalidWay, NotATable, NotRight, UnknownThing
from nearandfar.tables import Table
from nearandfar.ways import (
    between, check_no_twins, check_right, closed, count_ways, is_right, least_way, long_three, spread, twins, way_length,
)
from tests.support import (
    CHAIN, FORK, KNOT, LANE, LOOSE, SQUARE, TWIN, Touchy, closed_by_hand, expect, expect_in_order, given, is_right_by_hand,
    lengths_of, make, many_tables, no_tables, no_things_of, odd_values, pairs, random_tables, strings,
)

TABLES = many_tables()
LONG_ROW = make("abcdefg", lambda x, y: 1 if ord(y) - ord(x) == 1 else 1000000)


def sum_of(table, way):
    lengths = lengths_of(table)
    return sum(lengths[one, two] for one, two in zip(way, way[1:]))


def all_ways(things, most):
    """All ways of two to most things, in which things may come again."""
    grown = list(things)
    for _ in range(most - 1):
        grown = [way + thing for way in grown for thing in things if thing != way[-1]]
        yield from grown


def plain_lengths(table):
    """For each two things a dict of the lengths of all ways without a thing twice."""
    lengths = lengths_of(table)
    found = {}
    for way in strings(table.things, 2, len(table.things)):
        length = sum(lengths[one, two] for one, two in zip(way, way[1:]))
        found.setdefault((way[0], way[-1]), {})[way] = length
    return found


class TestWayLength(unittest.TestCase):
    def test_all_ways(self):
        for table in (LANE, LOOSE, TWIN, SQUARE, *random_tables(7, (2, 3, 4), 9, 2)):
            for way in all_ways(table.things, 5):
                self.assertEqual(sum_of(table, way), way_length(table, way))

    def test_long_ways(self):
        self.assertEqual(1000, way_length(Table("ab", (("ab", 1),)), "ab" * 500 + "a"))
        self.assertEqual(1000000 * 4, way_length(table=Table("ab", (("ab", 1000000),)), way="ababa"))

    def test_errors(self):
        # Of the odd values, just this one is a way.
        ways = [value for value in odd_values() if value.__class__ is not str or value != "ba"]
        ways += ["a", "", "aa", "abb", "aab", "abz", "zab", "aBc", "ab c", "ab\n", ("a", "b"), ["a", "b"], b"ab", 3, "abcdd"]
        expect_in_order(self, way_length, {"table": LANE, "way": "abad"}, {
            "table": given(NotATable, no_tables()), "way": given(InvalidWay, ways),
        })


class TestRight(unittest.TestCase):
    def test_against_all_threes(self):
        for table in TABLES:
            right = is_right_by_hand(table)
            self.assertIs(right, is_right(table))
            self.assertIs(right, is_right(table=table))
            three = long_three(table)
            if right:
                self.assertIsNone(three)
            else:
                lengths = lengths_of(table)
                self.assertEqual((3, 3), (len(three), len(set(three))))
                self.assertGreater(lengths[three[0], three[2]], lengths[three[0], three[1]] + lengths[three[1], three[2]])
                self.assertEqual(three, long_three(Table.told(str(table))))

    def test_against_all_ways_of_up_to_seven_things(self):
        for table in [one for one in TABLES if len(one) <= 4]:
            lengths = lengths_of(table)
            shorter = [way for way in all_ways(table.things, 7) if sum_of_dict(lengths, way) < lengths[way[0], way[-1]]]
            self.assertIs(shorter == [], is_right(table))

    def test_ends_of_a_chain_too_far_apart(self):
        self.assertFalse(is_right(CHAIN))
        self.assertEqual(6, closed(CHAIN).far("a", "g"))
        self.assertEqual((6, 31), (way_length(CHAIN, least_way(CHAIN, "a", "g")), count_ways(CHAIN, "a", "g")))
        self.assertIs(True, is_right(CHAIN.changed("ag", 6)))
        self.assertIs(False, is_right(CHAIN.changed("ag", 7)))

    def test_check_right(self):
        for table in TABLES:
            if is_right_by_hand(table):
                check_right(table)
            else:
                expect(self, NotRight, {"given": long_three(table)}, check_right, table)

    def test_errors(self):
        for call in (is_right, long_three, closed, twins, spread):
            expect_in_order(self, call, {"table": LANE}, {"table": given(NotATable, no_tables())})


def sum_of_dict(lengths, way):
    return sum(lengths[one, two] for one, two in zip(way, way[1:]))


class TestClosed(unittest.TestCase):
    def test_against_all_ways_without_a_thing_twice(self):
        for table in TABLES:
            shut = closed(table)
            self.assertEqual(closed_by_hand(table), shut)
            self.assertEqual(shut, closed(table=table))
            for (one, two), lengths in plain_lengths(table).items():
                self.assertEqual(min(lengths.values()), shut.far(one, two))

    def test_against_all_ways_of_up_to_seven_things(self):
        for table in [one for one in TABLES if len(one) <= 4] + random_tables(8, (5,), 20, 2):
            lengths = lengths_of(table)
            least = {}
            for way in all_ways(table.things, 7):
                ends = way[0] + way[-1]
                least[ends] = min(sum_of_dict(lengths, way), least.get(ends, 10 ** 9))
            for pair, distance in closed(table).distances:
                self.assertEqual(least[pair], distance)

    def test_only_the_longest_way_is_short(self):
        shut = closed(LONG_ROW)
        for one, two in pairs("abcdefg"):
            self.assertEqual(ord(two) - ord(one), shut.far(one, two))
        self.assertEqual("abcdefg", least_way(LONG_ROW, "a", "g"))

    def test_right_and_closed_again_the_same(self):
        for table in TABLES:
            shut = closed(table)
            self.assertTrue(is_right(shut))
            self.assertEqual(shut, closed(shut))
            self.assertEqual(is_right(table), shut == table)
            self.assertTrue(all(low <= high for (_, low), (_, high) in zip(shut.distances, table.distances)))

    def test_greatest_right_table_below(self):
        for row in itertools.product(range(5), repeat=3):
            distances = dict(zip(("ab", "ac", "bc"), row))
            shut = closed(make("abc", lambda x, y: distances[x + y]))
            for low in itertools.product(*[range(most + 1) for most in row]):
                below = dict(zip(("ab", "ac", "bc"), low))
                if is_right_by_hand(make("abc", lambda x, y: below[x + y])):
                    self.assertTrue(all(below[pair] <= distance for pair, distance in shut.distances))

    def test_the_table_ahead_stays(self):
        text = str(LOOSE)
        closed(LOOSE)
        self.assertEqual(text, str(LOOSE))


class TestLeastWays(unittest.TestCase):
    def test_against_all_ways_without_a_thing_twice(self):
        for table in TABLES:
            for (one, two), lengths in plain_lengths(table).items():
                least = min(lengths.values())
                way = least_way(table, one, two)
                self.assertEqual(least, lengths[way])
                self.assertEqual(list(lengths.values()).count(least), count_ways(table, one, two))

    def test_the_same_thing_twice(self):
        for table in TABLES:
            for thing in table.things:
                self.assertEqual((thing, 1, ""), tuple(call(table, thing, thing) for call in (least_way, count_ways, between)))

    def test_many_ways_of_the_same_length(self):
        nothing = make("abcdefg", lambda x, y: 0)
        self.assertEqual(326, count_ways(nothing, "a", "g"))
        self.assertEqual(32, count_ways(make("abcdefg", lambda x, y: ord(y) - ord(x)), "a", "g"))
        self.assertEqual(1, count_ways(make("abcdefg", lambda x, y: 5), "c", "d"))
        self.assertEqual(2, count_ways(TWIN, "a", "c"))

    def test_the_same_one_each_time(self):
        for table in TABLES:
            one, two = table.things[0], table.things[-1]
            self.assertEqual(least_way(table, one, two), least_way(Table.told(str(table)), thing=one, other=two))
            self.assertEqual(count_ways(table, one, two), count_ways(other=two, thing=one, table=table))
            self.assertEqual(between(table, one, two), between(table=table, thing=one, other=two))

    def test_errors(self):
        for call in (least_way, count_ways, between):
            expect_in_order(self, call, {"table": FORK, "thing": "a", "other": "c"}, {
                "table": given(NotATable, no_tables()), "thing": given(UnknownThing, no_things_of("abcde")),
                "other": given(UnknownThing, no_things_of("abcde")),
            })
            expect(self, UnknownThing, {"given": "y"}, call, FORK, "y", "z")
            expect(self, UnknownThing, {"given": "z"}, call, FORK, "a", "z")


class TestBetween(unittest.TestCase):
    def test_against_all_threes(self):
        for table in TABLES:
            lengths = lengths_of(table)
            for one, two in itertools.permutations(table.things, 2):
                found = [x for x in table.things if x not in (one, two) and lengths[one, x] + lengths[x, two] == lengths[one, two]]
                self.assertEqual("".join(found), between(table, one, two))

    def test_twins_are_between_and_not(self):
        self.assertEqual(("b", "a", ""), (between(TWIN, "a", "c"), between(TWIN, "c", "b"), between(TWIN, "a", "b")))
        self.assertEqual("", between(TWIN, "a", "a"))


class TestTwinsAndSpread(unittest.TestCase):
    def test_against_the_distances(self):
        for table in TABLES:
            zero = tuple(pair for pair, distance in table.distances if distance == 0)
            self.assertEqual((zero, zero), (twins(table), twins(table=table)))
            greatest = sorted(distance for _, distance in table.distances)[-1]
            self.assertEqual((greatest, greatest), (spread(table), spread(table=table)))
            if zero:
                expect(self, HasTwins, {"given": zero[0]}, check_no_twins, table)
            else:
                check_no_twins(table)

    def test_some(self):
        self.assertEqual((), twins(KNOT))
        self.assertEqual(("ab", "ac", "bc"), twins(make("abc", lambda x, y: 0)))
        self.assertEqual((0, 1000000), (spread(make("ab", lambda x, y: 0)), spread(make("ab", lambda x, y: 1000000))))
        expect(self, NotATable, {"given": None}, spread, None)
        self.assertRaises(NotATable, twins, Touchy())
