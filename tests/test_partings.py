"""Partings, held against going through all lots and all four things."""

import itertools
import unittest

from nearandfar.errors import InvalidPair, InvalidParting, NotATable, UnknownThing
from nearandfar.partings import clash, clear, cross, partings, parts, room, shape, strength
from tests.support import (
    CLOCK, FORK, KNOT, LANE, LOOSE, SQUARE, TWIN, expect, expect_in_order, given, lengths_of, make, many_tables, no_pairs_of,
    no_partings_of, no_tables, no_things_of, pairs, random_tables, subsets, tree_web,
)

TABLES = many_tables()


def lots_by_hand(things):
    return sorted(lot for lot in subsets(things) if things[0] not in lot)


def lots(things, parting):
    return set(parting), set(things) - set(parting)


def room_by_hand(lengths, t, u, v, w):
    sums = [lengths[t, v] + lengths[u, w], lengths[t, w] + lengths[u, v], lengths[t, u] + lengths[v, w]]
    return max(sums) - sums[2]


def strength_by_hand(table, parting):
    lengths = lengths_of(table)
    one, two = lots(table.things, parting)
    return min(room_by_hand(lengths, t, u, v, w) for t in one for u in one for v in two for w in two)


def does_part(things, parting, one, two):
    """Whether the parting parts the things one from the things two, neither of both themselves."""
    return any(set(one) <= lot and set(two) <= other for lot, other in (lots(things, parting), lots(things, parting)[::-1]))


def clash_by_hand(things, three):
    for t, u, v, w in itertools.permutations(things, 4):
        for first, second, third in itertools.permutations(three):
            if does_part(things, first, t + u, v + w) and does_part(things, second, t + v, u + w):
                if does_part(things, third, t + w, u + v):
                    return True
    return False


class TestLots(unittest.TestCase):
    def test_all_partings(self):
        for table in TABLES:
            found = tuple(lots_by_hand(table.things))
            self.assertEqual((found, found), (partings(table), partings(table=table)))
            self.assertEqual(2 ** (len(table) - 1) - 1, len(found))

    def test_parts(self):
        for table in (LANE, FORK, TWIN, make("ab", lambda x, y: 0), make("bcdfgxz", lambda x, y: 3)):
            for parting in lots_by_hand(table.things):
                for pair in pairs(table.things):
                    expected = (pair[0] in parting) is not (pair[1] in parting)
                    self.assertIs(expected, parts(table, parting, pair))
                    self.assertIs(expected, parts(pair=pair, parting=parting, table=table))

    def test_cross(self):
        for table in (LANE, KNOT, LOOSE, make("ab", lambda x, y: 0), make("bcdfgxz", lambda x, y: 3)):
            for one in lots_by_hand(table.things):
                for two in lots_by_hand(table.things):
                    expected = all(lot & other for lot in lots(table.things, one) for other in lots(table.things, two))
                    self.assertIs(expected, cross(table, one, two))
                    self.assertIs(expected, cross(other_parting=two, parting=one, table=table))

    def test_clash(self):
        for table in (SQUARE, KNOT, LOOSE):
            for three in itertools.product(lots_by_hand(table.things), repeat=3):
                expected = clash_by_hand(table.things, three)
                self.assertIs(expected, clash(table, *three))
                names = ("parting", "other_parting", "third_parting")
                self.assertIs(expected, clash(table=table, **dict(zip(names, three))))

    def test_clash_of_six_things(self):
        table = make("abcdef", lambda x, y: 1)
        threes = list(itertools.combinations(lots_by_hand("abcdef"), 3))[::41]
        self.assertIn(True, [clash(table, *three) for three in threes])
        for three in threes:
            self.assertIs(clash_by_hand("abcdef", three), clash(table, *three))

    def test_errors(self):
        wrong = given(InvalidParting, no_partings_of("abcd"))
        tables = given(NotATable, no_tables())
        expect_in_order(self, partings, {"table": LANE}, {"table": tables})
        expect_in_order(self, parts, {"table": LANE, "parting": "bd", "pair": "ad"}, {
            "table": tables, "parting": wrong, "pair": given(InvalidPair, no_pairs_of("abcd")),
        })
        expect_in_order(self, cross, {"table": LANE, "parting": "b", "other_parting": "bcd"}, {
            "table": tables, "parting": wrong, "other_parting": wrong,
        })
        expect_in_order(self, clash, {"table": LANE, "parting": "d", "other_parting": "cd", "third_parting": "bc"}, {
            "table": tables, "parting": wrong, "other_parting": wrong, "third_parting": wrong,
        })
        expect_in_order(self, parts, {"table": make("ab", lambda x, y: 0), "parting": "b", "pair": "ab"}, {
            "parting": given(InvalidParting, no_partings_of("ab")),
        })


class TestRoom(unittest.TestCase):
    def test_all_four_things(self):
        for table in (LANE, SQUARE, KNOT, LOOSE, TWIN, CLOCK, *random_tables(4, (2, 3, 4), 20, 2)):
            lengths = lengths_of(table)
            for four in itertools.product(table.things, repeat=4):
                expected = room_by_hand(lengths, *four)
                self.assertEqual(expected, room(table, *four))
                self.assertGreaterEqual(expected, 0)
                names = ("thing", "other", "third", "fourth")
                self.assertEqual(expected, room(table=table, **dict(zip(names, four))))

    def test_rooms_of_five_things(self):
        # Point 19, for all five things.
        for table in (KNOT, FORK, *random_tables(6, (5,), 9, 4)):
            lengths = lengths_of(table)
            for t, u, x, v, w in itertools.permutations(table.things):
                p = min(room_by_hand(lengths, *two, *other) for two in twos(t, u, x) for other in twos(v, w))
                q = min(room_by_hand(lengths, *two, *other) for two in twos(t, u) for other in twos(v, w, x))
                self.assertGreaterEqual(room(table, t, u, v, w), p + q)

    def test_errors(self):
        wrong = given(UnknownThing, no_things_of("abcd"))
        expect_in_order(self, room, {"table": LANE, "thing": "a", "other": "a", "third": "b", "fourth": "d"}, {
            "table": given(NotATable, no_tables()), "thing": wrong, "other": wrong, "third": wrong, "fourth": wrong,
        })
        expect(self, UnknownThing, {"given": "y"}, room, LANE, "a", "y", "z", "x")
        expect(self, UnknownThing, {"given": "z"}, room, LANE, "a", "a", "z", "x")


def twos(*things):
    return itertools.combinations_with_replacement(things, 2)


class TestClear(unittest.TestCase):
    def test_strengths(self):
        for table in TABLES:
            found = {parting: strength_by_hand(table, parting) for parting in lots_by_hand(table.things)}
            for parting, number in found.items():
                self.assertEqual(number, strength(table, parting))
            self.assertEqual(found[partings(table)[0]], strength(parting=partings(table)[0], table=table))
            told = tuple((parting, number) for parting, number in found.items() if number > 0)
            self.assertEqual((told, told), (clear(table), clear(table=table)))
            names = tuple(parting for parting, _ in told)
            self.assertEqual((names, names), (shape(table), shape(table=table)))

    def test_trees(self):
        # Of a tree the ties are the clear partings, with their doubled lengths.
        self.assertEqual((("b", 4), ("bcde", 2), ("c", 4), ("cde", 2), ("d", 2), ("de", 4), ("e", 6)), clear(FORK))
        for seed in range(10):
            table = tree_web(seed, 3 + seed % 5, seed % 4).table()
            for pair, distance in table.distances:
                self.assertEqual(2 * distance, sum(number for parting, number in clear(table) if parts(table, parting, pair)))
            for one, two in itertools.combinations(shape(table), 2):
                self.assertFalse(cross(table, one, two))

    def test_no_three_clear_partings_clash(self):
        for table in TABLES + random_tables(9, (4, 5, 6), 3, 6):
            for three in itertools.combinations(shape(table), 3):
                self.assertIs(False, clash(table, *three))

    def test_partings_add_up_to_no_more_than_the_distances(self):
        for table in TABLES:
            for pair, distance in table.distances:
                share = sum(number for parting, number in clear(table) if parts(table, parting, pair))
                self.assertLessEqual(share, 2 * distance)

    def test_errors(self):
        for call in (clear, shape):
            expect_in_order(self, call, {"table": LANE}, {"table": given(NotATable, no_tables())})
        expect_in_order(self, strength, {"table": LANE, "parting": "bd"}, {
            "table": given(NotATable, no_tables()), "parting": given(InvalidParting, no_partings_of("abcd")),
        })
