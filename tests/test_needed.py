"""Needed pairs and the least web, held against looking at all things between."""

import itertools
import unittest

from nearandfar.errors import HasTwins, NotATable, NotAWeb, NotRight
from nearandfar.needed import least_web, makes, needed_pairs
from nearandfar.ways import long_three
from nearandfar.webs import Web
from tests.support import (
    CHAIN, FORK, KNOT, LANE, LOOSE, SQUARE, TWIN, caught, expect, expect_in_order, given, is_right_by_hand, lengths_of, make,
    many_tables, no_tables, odd_values, pairs, random_web,
)

TABLES = many_tables()
FORKWEB = Web.told("abcde\nPQ 1\nPa 1\nPb 2\nQR 2\nQc 2\nRd 1\nRe 3")


def fit(table):
    return is_right_by_hand(table) and min(distance for _, distance in table.distances) > 0


def needed_by_hand(table):
    lengths = lengths_of(table)
    found = []
    for one, two in pairs(table.things):
        others = [x for x in table.things if x not in (one, two)]
        if not [x for x in others if lengths[one, x] + lengths[x, two] == lengths[one, two]]:
            found.append(one + two)
    return tuple(found)


def webs_of(things, longest):
    """All webs without hidden places of these things with LENGTHs up to the longest."""
    for row in itertools.product(range(longest + 1), repeat=len(pairs(things))):
        ties = tuple((pair, length) for pair, length in zip(pairs(things), row) if length)
        if caught(Web, things, ties) is None:
            yield Web(things, ties)


class TestNeeded(unittest.TestCase):
    def test_against_all_things_between(self):
        count = 0
        for table in TABLES:
            if fit(table):
                count += 1
                self.assertEqual(needed_by_hand(table), needed_pairs(table))
                self.assertEqual(needed_by_hand(table), needed_pairs(table=table))
        self.assertGreater(count, 40)

    def test_least_web(self):
        for table in TABLES:
            if fit(table):
                web = least_web(table)
                self.assertEqual((web, ""), (least_web(table=table), web.hidden))
                self.assertEqual([(pair, dict(table.distances)[pair]) for pair in needed_by_hand(table)], list(web.ties))
                self.assertEqual((table, True), (web.table(), makes(web, table)))
                self.assertTrue(all(caught(web.without, pair) or web.without(pair).table() != table for pair, _ in web.ties))

    def test_no_other_web_with_as_few_ties_makes_it(self):
        rights = [make("abc", lambda x, y: row[x + y]) for row in rows_of("abc", 3)]
        rights += [make("abcd", lambda x, y: row[x + y]) for row in list(rows_of("abcd", 2))[::5]]
        webs = {things: list(webs_of(things, longest)) for things, longest in (("abc", 4), ("abcd", 2))}
        for table in rights:
            if not fit(table):
                continue
            least = least_web(table)
            distances = dict(table.distances)
            for web in webs[table.things]:
                ties = dict(web.ties)
                needed = all(ties.get(pair) == distances[pair] for pair in needed_by_hand(table))
                long_enough = all(length >= distances[pair] for pair, length in web.ties)
                self.assertIs(needed and long_enough, makes(web, table))
                if makes(web, table) and web != least:
                    self.assertGreater(len(web), len(least))

    def test_not_right_then_twins(self):
        for call in (needed_pairs, least_web):
            for table in TABLES:
                zero = [pair for pair, distance in table.distances if distance == 0]
                if not is_right_by_hand(table):
                    expect(self, NotRight, {"given": long_three(table)}, call, table)
                elif zero:
                    expect(self, HasTwins, {"given": zero[0]}, call, table=table)
            expect(self, NotRight, {"given": long_three(LOOSE)}, call, LOOSE)
            expect(self, NotRight, {"given": long_three(CHAIN)}, call, CHAIN)
            expect(self, HasTwins, {"given": "ab"}, call, TWIN)
            expect(self, HasTwins, {"given": "bc"}, call, make("abcd", lambda x, y: 0 if x + y in ("bc",) else 3))
            # Not right, and with twins: the first one is told.
            both = make("abc", lambda x, y: 0 if x + y != "ac" else 3)
            expect(self, NotRight, {"given": long_three(both)}, call, both)
            expect_in_order(self, call, {"table": LANE}, {"table": given(NotATable, no_tables())})


def rows_of(things, longest):
    for row in itertools.product(range(1, longest + 1), repeat=len(pairs(things))):
        yield dict(zip(pairs(things), row))


class TestMakes(unittest.TestCase):
    def test_webs_that_do_and_do_not(self):
        self.assertIs(True, makes(FORKWEB, FORK))
        self.assertIs(True, makes(Web.told("abcd\nab 1\nad 1\nbc 1\ncd 1"), SQUARE))
        self.assertIs(False, makes(Web.told("abcd\nab 1\nad 1\nbc 1"), SQUARE))
        self.assertIs(False, makes(Web.told("abcd\nab 1\nad 1\nbc 1\ncd 2"), SQUARE))
        self.assertIs(False, makes(Web.told("abcd\nab 1\nac 1\nad 1\nbc 1\ncd 1"), SQUARE))
        self.assertIs(True, makes(Web.told("abcd\nab 1\nac 2\nad 1\nbc 1\ncd 1"), SQUARE))
        self.assertIs(True, makes(Web.told("abcd\nab 1\nac 9\nad 1\nbc 1\nbd 1000000\ncd 1"), SQUARE))

    def test_other_things(self):
        self.assertIs(False, makes(FORKWEB, LANE))
        self.assertIs(False, makes(Web("ab", (("ab", 3),)), make("ac", lambda x, y: 3)))
        self.assertIs(False, makes(least_web(SQUARE), make("wxyz", lambda x, y: SQUARE.far(*("abcd"["wxyz".index(z)] for z in (x, y))))))

    def test_tables_of_webs(self):
        for seed in range(12):
            web = random_web(seed, 2 + seed % 5, seed % 4, seed % 5)
            self.assertIs(True, makes(web, web.table()))
            self.assertIs(True, makes(table=least_web(web.table()).table(), web=web))
            self.assertIs(False, makes(web, web.table().changed(web.things[:2], 77)))

    def test_tables_that_no_web_makes(self):
        for table in (LOOSE, TWIN, CHAIN):
            self.assertIs(False, makes(Web(table.things, tuple((pair, 2) for pair in pairs(table.things))), table))

    def test_errors(self):
        no_webs = odd_values() + [KNOT, str(FORKWEB), FORKWEB.ties, "ab"]
        expect_in_order(self, makes, {"web": FORKWEB, "table": FORK}, {
            "web": given(NotAWeb, no_webs), "table": given(NotATable, no_tables() + [FORKWEB]),
        })
