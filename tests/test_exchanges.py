"""Exchanges, held against going through all renamings."""

import itertools
import random
import unittest

from nearandfar.errors import InvalidRenaming, NotATable, UnknownThing
from nearandfar.exchanges import (
    are_alike, behind, classes, exchanges, form, is_exchange, leaving, pair_classes, taken_back, told_by,
)
from nearandfar.tables import Table
from tests.support import (
    CLOCK, FORK, KNOT, LANE, LOOSE, SQUARE, TWIN, expect_in_order, far, given, lengths_of, make, many_tables, no_tables,
    no_things_of, odd_values, pairs, random_tables, ring_table,
)


def renamings(things):
    return ["".join(row) for row in itertools.permutations(things)]


def by_hand(table):
    """All renamings by which the distances stay."""
    lengths = lengths_of(table)
    found = []
    for row in itertools.permutations(table.things):
        new = dict(zip(table.things, row))
        if all(lengths[new[one], new[other]] == distance for (one, other), distance in table.distances):
            found.append("".join(row))
    return found


def some_tables():
    """Tables of two to seven things, not too many of the great ones."""
    tables = many_tables()
    great = [table for table in tables if len(table) == 7]
    return [table for table in tables if len(table) < 7] + great[::3] + [make("bdfhkmz", lambda x, y: 3)]


def no_renamings():
    return odd_values() + [
        "abc", "abcde", "abca", "aabc", "abcA", "abc ", "abcd ", "abcz", "bcd", tuple("abcd"), list("dcba"), ("abcd",), b"abcd",
        {"a": "b", "b": "a", "c": "c", "d": "d"}, "ABCD", "abcdabcd", "",
    ]


class TestExchanges(unittest.TestCase):
    def test_all_renamings(self):
        for table in some_tables():
            found = by_hand(table)
            self.assertEqual(tuple(found), exchanges(table))
            self.assertEqual(tuple(found), exchanges(table=table))
            rows = renamings(table.things)
            for row in random.Random(1).sample(rows, min(len(rows), 120)) + found[:120]:
                self.assertIs(row in found, is_exchange(table, row))
                self.assertIs(row in found, is_exchange(renaming=row, table=table))

    def test_classes(self):
        for table in some_tables():
            found = by_hand(table)
            lots = {thing: {row[at] for row in found} for at, thing in enumerate(table.things)}
            told = classes(table)
            self.assertEqual(sorted({"".join(sorted(lot)) for lot in lots.values()}), list(told))
            self.assertEqual(table.things, "".join(sorted("".join(told))))
            self.assertEqual(told, classes(table=table))
            for thing in table.things:
                left = tuple(row for row in found if row[table.things.index(thing)] == thing)
                self.assertEqual((left, left), (leaving(table, thing), leaving(thing=thing, table=table)))
                # Each class has as many things as there are exchanges for each one that leaves the thing.
                self.assertEqual(len(exchanges(table)), len(lots[thing]) * len(left))

    def test_pair_classes(self):
        for table in some_tables():
            found = by_hand(table)
            lots = set()
            for one, other in pairs(table.things):
                x, y = table.things.index(one), table.things.index(other)
                lots.add(tuple(sorted({"".join(sorted(row[x] + row[y])) for row in found})))
            told = pair_classes(table)
            self.assertEqual(sorted(lots), list(told))
            self.assertEqual(pairs(table.things), sorted(pair for lot in told for pair in lot))
            self.assertEqual(told, pair_classes(table=table))
            for lot in told:
                self.assertEqual(1, len({far(table, *pair) for pair in lot}))

    def test_behind_and_back(self):
        chance = random.Random(3)
        for table in (LANE, FORK, SQUARE, TWIN, make("xy", lambda x, y: 3), make("bdfhkmz", lambda x, y: ord(x) + ord(y))):
            rows = renamings(table.things)
            for _ in range(60):
                one, two = chance.choice(rows), chance.choice(rows)
                first, second = dict(zip(table.things, one)), dict(zip(table.things, two))
                both = "".join(second[first[thing]] for thing in table.things)
                self.assertEqual((both, both), (behind(table, one, two), behind(later=two, renaming=one, table=table)))
                back = taken_back(table, one)
                self.assertEqual(back, taken_back(renaming=one, table=table))
                self.assertEqual(table.things, behind(table, one, back))
                self.assertEqual(table.things, behind(table, back, one))
        for table in (SQUARE, KNOT, CLOCK, TWIN):
            found = exchanges(table)
            self.assertLessEqual({behind(table, one, two) for one in found for two in found}, set(found))
            self.assertEqual(set(found), {taken_back(table, one) for one in found})

    def test_errors(self):
        tables, wrong = given(NotATable, no_tables()), given(InvalidRenaming, no_renamings())
        for call in (exchanges, classes, pair_classes, form):
            expect_in_order(self, call, {"table": SQUARE}, {"table": tables})
        for call in (is_exchange, taken_back):
            expect_in_order(self, call, {"table": SQUARE, "renaming": "bcda"}, {"table": tables, "renaming": wrong})
        expect_in_order(self, behind, {"table": SQUARE, "renaming": "bcda", "later": "abdc"}, {
            "table": tables, "renaming": wrong, "later": wrong,
        })
        expect_in_order(self, leaving, {"table": SQUARE, "thing": "a"}, {
            "table": tables, "thing": given(UnknownThing, no_things_of("abcd")),
        })
        for call in (are_alike, told_by):
            expect_in_order(self, call, {"table": SQUARE, "other_table": LOOSE}, {"table": tables, "other_table": tables})


class TestAlikeTables(unittest.TestCase):
    def test_form(self):
        for table in some_tables():
            lengths = lengths_of(table)
            rows = itertools.permutations(table.things)
            least = min(tuple(lengths[one, other] for one, other in itertools.combinations(row, 2)) for row in rows)
            self.assertEqual((least, least), (form(table), form(table=table)))
        self.assertEqual((0,), form(make("xy", lambda x, y: 0)))

    def test_renamed_tables(self):
        chance = random.Random(5)
        for table in some_tables():
            letters = "".join(chance.sample("abcdefghijklmnopqrstuvwxyz", len(table)))
            other = table.renamed(letters)
            self.assertIs(True, are_alike(table, other))
            self.assertIs(True, are_alike(other_table=table, table=other))
            told = told_by(table, other)
            self.assertEqual(told, told_by(other_table=other, table=table))
            self.assertEqual(other.things, "".join(sorted(told)))
            self.assertEqual(other, table.renamed(told))
            self.assertEqual(form(table), form(other))
            self.assertEqual(table.things, "".join(sorted(told_by(table, table))))
            # What is told of a table is told of an alike one, with its things.
            new = dict(zip(table.things, letters))
            self.assertEqual(
                sorted("".join(sorted(new[thing] for thing in lot)) for lot in classes(table)), list(classes(other)),
            )
            self.assertEqual(len(exchanges(table)), len(exchanges(other)))

    def test_others(self):
        tables = random_tables(121, (2, 3, 4), 2, 12) + random_tables(122, (5,), 1, 8) + [TWIN, LOOSE, SQUARE]
        seen = {True: 0, False: 0}
        for one, two in itertools.combinations(tables, 2):
            fits = []
            if len(one) == len(two):
                new = lengths_of(two)
                for row in itertools.permutations(two.things):
                    to = dict(zip(one.things, row))
                    if all(new[to[x], to[y]] == distance for (x, y), distance in one.distances):
                        fits.append("".join(row))
            seen[bool(fits)] += 1
            self.assertIs(bool(fits), are_alike(one, two))
            told = told_by(one, two)
            if fits:
                self.assertIn(told, fits)
                self.assertIn(len(fits), (len(exchanges(one)),))
            else:
                self.assertIsNone(told)
            self.assertIs(bool(fits), len(one) == len(two) and form(one) == form(two))
        self.assertTrue(min(seen.values()) > 20, seen)

    def test_unlike_numbers_of_things(self):
        for one, two in itertools.permutations((LOOSE, SQUARE, KNOT, make("xy", lambda x, y: 1), make("abcdefg", lambda x, y: 1)), 2):
            self.assertEqual((False, None), (are_alike(one, two), told_by(one, two)))
        # All distances alike, so only the numbers tell them apart.
        for size in range(2, 7):
            one, two = make("abcdefg"[:size], lambda x, y: 4), make("abcdefg"[:size + 1], lambda x, y: 4)
            self.assertEqual((False, None), (are_alike(one, two), told_by(two, one)))

    def test_same_distances_in_other_places(self):
        one = Table.told("abcd\nab 1\nac 1\nad 1\nbc 2\nbd 2\ncd 2")
        two = Table.told("abcd\nab 1\nac 1\nad 2\nbc 1\nbd 2\ncd 2")
        self.assertEqual((False, None), (are_alike(one, two), told_by(one, two)))
        self.assertEqual((14, 12), (len(exchanges(ring_table("abcdefg", (1,) * 7))), len(exchanges(ring_table("abcdef", (1,) * 6)))))
        self.assertEqual(5040, len(exchanges(make("abcdefg", lambda x, y: 9))))
