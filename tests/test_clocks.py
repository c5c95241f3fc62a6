"""Clocks, held against going by steps of at most a number, and against clocks that were drawn."""

import itertools
import random
import unittest

from nearandfar.clocks import bad_three, clock_pieces, clocked, clusters, groups, is_clock, level, levels
from nearandfar.errors import HasTwins, InvalidNumber, InvalidPair, NotAClock, NotATable
from nearandfar.tables import Table
from nearandfar.trees import from_pieces, is_tree, pieces
from tests.support import (
    CLOCK, FORK, KNOT, LANE, LOOSE, SQUARE, TWIN, expect, expect_in_order, given, lengths_of, make, many_tables, no_pairs_of,
    no_tables, odd_values, pairs, random_tables, subsets,
)


def reached(lengths, things, start, number):
    """All things to which steps of at most a number lead."""
    found = {start}
    while True:
        more = {thing for thing in things for here in found if lengths[here, thing] <= number}
        if more == found:
            return "".join(sorted(found))
        found = more


def groups_by_hand(table, number):
    lengths = lengths_of(table)
    return tuple(sorted({reached(lengths, table.things, thing, number) for thing in table.things}))


def level_by_hand(table, pair):
    lengths = lengths_of(table)
    for number in sorted(lengths.values()):
        if pair[1] in reached(lengths, table.things, pair[0], number):
            return number
    raise AssertionError(pair)


def drawn_clock(seed, size, greatest):
    """A clock: lots are put together two by two, at greater and greater numbers, some of them alike."""
    chance = random.Random(seed)
    things = "".join(sorted(chance.sample("abcdefghijklmnopqrstuvwxyz", size)))
    lots, lengths, number = list(things), {}, chance.randint(0, 1)
    while len(lots) > 1:
        one, two = chance.sample(lots, 2)
        lots = [lot for lot in lots if lot not in (one, two)] + [one + two]
        for x, y in itertools.product(one, two):
            lengths["".join(sorted(x + y))] = number
        number += chance.choice((0, 1, greatest))
    return Table(things, tuple(sorted(lengths.items())))


CLOCKS = [drawn_clock(seed, 2 + seed % 6, 1 + seed % 7) for seed in range(60)]
TABLES = many_tables() + CLOCKS + random_tables(41, (3, 4, 5), 3, 6)


class TestLevels(unittest.TestCase):
    def test_levels(self):
        for table in TABLES:
            told = tuple((pair, level_by_hand(table, pair)) for pair in pairs(table.things))
            for pair, number in told:
                self.assertEqual(number, level(table, pair))
            self.assertEqual(number, level(pair=pair, table=table))
            self.assertEqual(((table.things, told),) * 2, tuple((found.things, found.distances) for found in (
                clocked(table), clocked(table=table))))
            each = tuple(sorted({number for _, number in told}))
            self.assertEqual((each, each), (levels(table), levels(table=table)))

    def test_the_greatest_clock_below(self):
        for table in TABLES:
            found = clocked(table)
            self.assertIs(True, is_clock(found))
            self.assertEqual(found, clocked(found))
            self.assertIs(found == table, is_clock(table))
            for (_, number), (_, far) in zip(found.distances, table.distances):
                self.assertLessEqual(number, far)

    def test_no_small_clock_is_above(self):
        for table in random_tables(43, (3, 4), 2, 12):
            found = dict(clocked(table).distances)
            for numbers in itertools.product(*[range(far + 1) for _, far in table.distances]):
                other = Table(table.things, tuple(zip(pairs(table.things), numbers)))
                if is_clock(other):
                    self.assertTrue(all(number <= found[pair] for pair, number in other.distances))

    def test_errors(self):
        tables = given(NotATable, no_tables())
        for call in (clocked, is_clock, bad_three, levels, clusters, clock_pieces):
            expect_in_order(self, call, {"table": CLOCK}, {"table": tables})
        expect_in_order(self, level, {"table": LANE, "pair": "ad"}, {
            "table": tables, "pair": given(InvalidPair, no_pairs_of("abcd")),
        })


class TestKind(unittest.TestCase):
    def test_bad_three(self):
        for table in TABLES:
            bad = []
            for x, y, z in itertools.combinations(table.things, 3):
                found = sorted((table.far(x, y), table.far(x, z), table.far(y, z)))
                if found[1] != found[2]:
                    bad.append(x + y + z)
            told = bad[0] if bad else None
            self.assertEqual((told, told), (bad_three(table), bad_three(table=table)))
            self.assertEqual((not bad, not bad), (is_clock(table), is_clock(table=table)))

    def test_known_kinds(self):
        for table in CLOCKS + [CLOCK, TWIN, make("ab", lambda x, y: 3), make("abc", lambda x, y: 0)]:
            self.assertIs(True, is_clock(table))
        for table in (LANE, FORK, SQUARE, KNOT, LOOSE):
            self.assertIs(False, is_clock(table))


class TestGroups(unittest.TestCase):
    def test_groups(self):
        for table in TABLES:
            numbers = {0, 1, 1000000}
            for number in levels(table):
                numbers |= {max(0, number - 1), number, min(1000000, number + 1)}
            for number in numbers:
                told = groups_by_hand(table, number)
                self.assertEqual((told, told), (groups(table, number), groups(number=number, table=table)))

    def test_errors_of_groups(self):
        wrong = odd_values() + [1000001, "1", (1,), None, True, False, -1]
        expect_in_order(self, groups, {"table": CLOCK, "number": 2}, {
            "table": given(NotATable, no_tables()), "number": given(InvalidNumber, wrong),
        })
        self.assertEqual(("abcd",), groups(CLOCK, 1000000))
        self.assertEqual(("a", "b", "c", "d"), groups(CLOCK, 0))

    def test_clusters(self):
        for table in TABLES:
            found = {}
            for number in sorted(level_by_hand(table, pair) for pair in pairs(table.things)):
                for lot in groups_by_hand(table, number):
                    if len(lot) > 1:
                        found.setdefault(lot, number)
            told = tuple(sorted(found.items()))
            self.assertEqual((told, told), (clusters(table), clusters(table=table)))
            for (one, _), (two, _) in itertools.combinations(told, 2):
                self.assertIn(set(one) & set(two), (set(), set(one), set(two)))

    def test_clusters_are_all_groups(self):
        for table in random_tables(47, (3, 4), 4, 6):
            lots = {lot for number in range(5) for lot in groups_by_hand(table, number) if len(lot) > 1}
            self.assertEqual(sorted(lots), [lot for lot, _ in clusters(table)])
            self.assertIn((table.things, max(levels(table))), clusters(table))


class TestPieces(unittest.TestCase):
    def told_pieces(self, table):
        """All nested lots with their numbers, gone through by subsets."""
        known = {thing: 0 for thing in table.things}
        for lot in subsets(table.things):
            inside = max((level_by_hand(table, x + y) for x, y in itertools.combinations(lot, 2)), default=0)
            if len(lot) > 1 and lot in groups_by_hand(table, inside):
                known[lot] = inside
        found = {}
        for lot, own in known.items():
            around = [number for other, number in known.items() if set(lot) < set(other)]
            if around:
                other = "".join(thing for thing in table.things if thing not in lot)
                parting = other if table.things[0] in lot else lot
                found[parting] = found.get(parting, 0) + min(around) - own
        return tuple(sorted(found.items()))

    def test_clock_pieces(self):
        shown = 0
        for table in CLOCKS + [CLOCK, make("abcde", lambda x, y: 5), make("bx", lambda x, y: 1000000)]:
            if any(far == 0 for _, far in table.distances):
                continue
            shown += 1
            told = self.told_pieces(table)
            self.assertEqual((told, told), (clock_pieces(table), clock_pieces(table=table)))
            self.assertIs(True, is_tree(table))
            self.assertEqual(told, pieces(table))
            self.assertEqual(table, from_pieces(table.things, told))
        self.assertGreater(shown, 20)

    def test_two_lots_with_one_parting(self):
        self.assertEqual((("b", 14),), clock_pieces(make("ab", lambda x, y: 7)))
        # The level of ab and that of c are added: 3 less 1, and 3 less 0.
        self.assertEqual((("b", 1), ("bc", 1), ("c", 5)), clock_pieces(Table.told("abc\nab 1\nac 3\nbc 3")))

    def test_no_clock_and_twins(self):
        for table in TABLES:
            bad, twins = bad_three(table), [pair for pair, far in table.distances if far == 0]
            if bad is not None:
                expect(self, NotAClock, {"given": bad}, clock_pieces, table)
                expect(self, NotAClock, {"given": bad}, clock_pieces, table=table)
            elif twins:
                expect(self, HasTwins, {"given": twins[0]}, clock_pieces, table)
        both = Table.told("abcd\nab 0\nac 1\nad 1\nbc 2\nbd 1\ncd 1")
        expect(self, NotAClock, {"given": "abc"}, clock_pieces, both)
