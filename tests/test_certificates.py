"""Certificates: what each claim tells is what the functions tell, and the checker takes the pair."""

import random
import unittest

from nearandfar.caps import cap_of, corners, middle_cap
from nearandfar.certificates import (
    certify_alike, certify_cap, certify_closed, certify_cost, certify_crowd, certify_level, certify_line, certify_needed,
    certify_radius, certify_right, certify_round, certify_sheet, certify_span, certify_strength, certify_sum, certify_tree,
    certify_trip, certify_trips, certify_web,
)
from nearandfar.checker import accepts
from nearandfar.errors import (
    HasTwins, InvalidLifts, InvalidPair, InvalidParting, InvalidPile, NotASheet, NotATable, NotAWeb, NotRight, TooMany, Unlike,
)
from nearandfar.hidden import span, trouble
from nearandfar.needed import least_web
from nearandfar.partings import partings
from nearandfar.rounds import all_orders
from nearandfar.ways import long_three, twins
from tests import papers
from tests.drawn import drawn_trees
from tests.papers import accepted
from tests.support import (
    FORK, KNOT, LANE, LOOSE, SQUARE, TWIN, closed_by_hand, expect, expect_in_order, far, given, is_right_by_hand, lengths_of, make,
    many_tables, no_pairs_of, no_partings_of, no_tables, odd_values, pairs, random_tables, random_web, tree_web,
)
from tests.test_hidden import some_sheets
from tests.test_moves import random_piles
from tests.test_piles import no_piles_of
from tests.test_sheets import PART

WEB = random_web(3, 4, 2, 2)


def some_tables():
    """Tables of all kinds, with few of seven things."""
    tables = many_tables() + [tree.table() for tree in drawn_trees()[::6]]
    return [table for table in tables if len(table) < 6] + [table for table in tables if len(table) > 5][::4]


class TestCertificates(unittest.TestCase):
    def take(self, claim, pair, by_hand=True):
        """The pair tells this claim, and the checker takes it; so does looking at it by hand."""
        self.assertEqual((tuple, 2), (pair.__class__, len(pair)))
        self.assertEqual(claim, pair[0])
        self.assertIs(True, accepts(*pair), pair)
        if by_hand:
            self.assertIs(True, accepted(*pair), pair)

    def test_right_and_closed(self):
        for table in some_tables():
            self.take(("right" if is_right_by_hand(table) else "long", str(table)), certify_right(table))
            self.take(("closed", str(table), str(closed_by_hand(table))), certify_closed(table))
            self.assertEqual((certify_right(table), certify_closed(table)), (certify_right(table=table), certify_closed(table=table)))

    def test_webs(self):
        webs = [random_web(seed, 2 + seed % 6, seed % 7, seed % 5) for seed in range(30)] + [tree_web(seed, 4, 3) for seed in range(6)]
        for web in webs + [least_web(LANE), least_web(KNOT)]:
            self.take(("makes", str(web), str(web.table())), certify_web(web))
            self.assertEqual(certify_web(web), certify_web(web=web))

    def test_needed(self):
        for table in some_tables():
            if not is_right_by_hand(table):
                expect(self, NotRight, {"given": long_three(table)}, certify_needed, table)
            elif twins(table):
                expect(self, HasTwins, {"given": twins(table)[0]}, certify_needed, table)
            else:
                told = tuple(pair for pair in pairs(table.things) if not papers.betweens(table, pair))
                self.take(("needed", str(table), told), certify_needed(table))
                self.assertEqual(certify_needed(table), certify_needed(table=table))

    def test_kinds(self):
        seen = {}
        for table in some_tables():
            for call, words in ((certify_line, ("line", "no line")), (certify_tree, ("tree", "no tree"))):
                claim, paper = call(table)
                # The checker and looking by hand take no paper of the other kind: so the word is the right one.
                self.assertIn(claim, [(word, str(table)) for word in words])
                self.take(claim, (claim, paper))
                self.assertEqual((claim, paper), call(table=table))
                seen[claim[0]] = seen.get(claim[0], 0) + 1
            told = certify_sum(table)
            self.assertEqual(told, certify_sum(table=table))
            if told is not None:
                self.take(("sum", str(table)), told)
            self.assertIs(table.things in ("ab",) or papers.adds_up(clear_by_hand(table), table), told is not None)
            seen[told is None] = seen.get(told is None, 0) + 1
        self.assertTrue(min(seen.values()) > 10, seen)

    def test_strength(self):
        for table in some_tables():
            lengths = lengths_of(table)
            for lot in partings(table)[:9]:
                self.take(("strength", str(table), lot, strength_by_hand(table, lengths, lot)), certify_strength(table, lot))
                self.assertEqual(certify_strength(table, lot), certify_strength(parting=lot, table=table))

    def test_round(self):
        seen = {"round": 0, "no round": 0}
        for table in some_tables():
            if not is_right_by_hand(table):
                expect(self, NotRight, {"given": long_three(table)}, certify_round, table)
                continue
            lengths = lengths_of(table)
            told = [order for order in all_orders(table) if papers.round_right(lengths, order)]
            claim = ("round", str(table), told[0]) if told else ("no round", str(table))
            self.take(claim, certify_round(table))
            self.assertEqual(certify_round(table), certify_round(table=table))
            seen[claim[0]] += 1
        self.assertTrue(min(seen.values()) > 5, seen)

    def test_trips(self):
        for table in some_tables():
            lengths = lengths_of(table)
            shortest = min(papers.trip(lengths, order) for order in papers.orders(table.things))
            self.take(("trip", str(table), shortest), certify_trip(table))
            self.take(("trips", str(table), shortest), certify_trips(table))
            self.assertEqual((certify_trip(table), certify_trips(table)), (certify_trip(table=table), certify_trips(table=table)))
            self.assertFalse(accepts(("trip", str(table), shortest - 1), certify_trip(table)[1]))
            self.assertFalse(accepts(("trips", str(table), shortest + 1), certify_trips(table)[1]))

    def test_levels(self):
        for table in some_tables():
            found = {(x, y): far(table, x, y) for x in table.things for y in table.things}
            for y in table.things:
                for x in table.things:
                    for z in table.things:
                        found[x, z] = min(found[x, z], max(found[x, y], found[y, z]))
            for pair in pairs(table.things):
                self.take(("level", str(table), pair, found[tuple(pair)]), certify_level(table, pair))
                self.assertEqual(certify_level(table, pair), certify_level(pair=pair, table=table))

    def test_span(self):
        for table in some_tables():
            joined, total = {table.things[0]}, 0
            while len(joined) < len(table):
                near, thing = min((far(table, x, y), y) for x in joined for y in table.things if y not in joined)
                joined.add(thing)
                total += near
            self.take(("least tree", str(table), total), certify_span(table), len(table) < 6)
            self.assertEqual(certify_span(table), certify_span(table=table))

    def test_crowds(self):
        seen = {"crowd": 0, "no crowd": 0}
        for table in some_tables():
            if len(table) == 7:
                expect(self, TooMany, {"given": 7}, certify_crowd, table)
                continue
            claim, paper = certify_crowd(table)
            self.assertIn(claim, (("crowd", str(table)), ("no crowd", str(table))))
            self.take(claim, (claim, paper))
            self.assertEqual((claim, paper), certify_crowd(table=table))
            seen[claim[0]] += 1
        self.assertTrue(min(seen.values()) > 20, seen)

    def test_costs(self):
        chance = random.Random(195)
        for table in some_tables():
            first, second = random_piles(chance, len(table), chance.randint(0, 40))
            claim, paper = certify_cost(table, first, second)
            self.assertEqual(("cost", str(table), first, second), claim[:-1])
            self.take(claim, (claim, paper))
            self.assertEqual((claim, paper), certify_cost(second=second, first=first, table=table))

    def test_caps(self):
        for table in some_tables():
            caps = [middle_cap(table)]
            caps += [cap_of(table, thing) for thing in table.things] if is_right_by_hand(table) else []
            caps += list(corners(table)) if len(table) < 5 else []
            for lifts in caps:
                self.take(("cap", str(table), lifts), certify_cap(table, lifts))
                self.assertEqual(certify_cap(table, lifts), certify_cap(lifts=lifts, table=table))
            spread = max(distance for _, distance in table.distances)
            half = (spread, 2) if spread % 2 else (spread // 2, 1)
            self.take(("radius", str(table), half), certify_radius(table))
            self.assertEqual(certify_radius(table), certify_radius(table=table))

    def test_alike(self):
        tables = random_tables(197, (2, 3, 4), 2, 4) + [LANE, SQUARE, make("abcd", lambda x, y: 2)]
        for one in tables:
            for two in tables + [one.renamed("zyxw"[:len(one)])]:
                word = "unlike" if papers.unlike((), one, two) else "alike"
                self.take((word, str(one), str(two)), certify_alike(one, two))
                self.assertEqual(certify_alike(one, two), certify_alike(other_table=two, table=one))
        for table in some_tables():
            self.take(("alike", str(table), str(table)), certify_alike(table, table))

    def test_sheets(self):
        seen = {"torn": 0, "span": 0}
        for sheet in some_sheets(199, 3):
            for pair in pairs(sheet.things)[:4]:
                if trouble(sheet) is None:
                    claim = ("span", str(sheet), pair, *span(sheet, pair))
                else:
                    claim = ("torn", str(sheet))
                self.take(claim, certify_sheet(sheet, pair))
                self.assertEqual(certify_sheet(sheet, pair), certify_sheet(pair=pair, sheet=sheet))
                seen[claim[0]] += 1
        self.assertTrue(min(seen.values()) > 10, seen)


def strength_by_hand(table, lengths, lot):
    rest = [thing for thing in table.things if thing not in lot]
    return min(papers.room(lengths, t, u, v, w) for t in rest for u in rest for v in lot for w in lot)


def clear_by_hand(table):
    lengths = lengths_of(table)
    strengths = [(lot, strength_by_hand(table, lengths, lot)) for lot in papers.lots_of(table.things)]
    return [(lot, number) for lot, number in strengths if number > 0]


class TestErrors(unittest.TestCase):
    def test_of_tables(self):
        tables = given(NotATable, no_tables())
        for call in (
            certify_right, certify_closed, certify_needed, certify_line, certify_tree, certify_sum, certify_round, certify_trip, certify_trips,
            certify_span, certify_crowd, certify_radius,
        ):
            expect_in_order(self, call, {"table": SQUARE}, {"table": tables})
        expect_in_order(self, certify_web, {"web": WEB}, {"web": given(NotAWeb, odd_values() + [LANE, str(WEB), WEB.ties, PART])})
        expect_in_order(self, certify_alike, {"table": SQUARE, "other_table": LANE}, {"table": tables, "other_table": tables})

    def test_of_others(self):
        tables = given(NotATable, no_tables())
        expect_in_order(self, certify_strength, {"table": SQUARE, "parting": "b"}, {
            "table": tables, "parting": given(InvalidParting, no_partings_of("abcd")),
        })
        expect_in_order(self, certify_level, {"table": SQUARE, "pair": "ab"}, {
            "table": tables, "pair": given(InvalidPair, no_pairs_of("abcd")),
        })
        lifts = odd_values() + [((2, 1),) * 4, ((1, 1),) * 3, [(1, 1)] * 4, ((True, 1),) * 4, ((2, 2),) * 4, ((1, 2),) * 4]
        expect_in_order(self, certify_cap, {"table": SQUARE, "lifts": ((1, 1),) * 4}, {
            "table": tables, "lifts": given(InvalidLifts, lifts),
        })
        sheets = given(NotASheet, odd_values() + [LANE, str(LANE), PART.text])
        wrong = given(InvalidPair, no_pairs_of("abcd"))
        expect_in_order(self, certify_sheet, {"sheet": PART, "pair": "ad"}, {"sheet": sheets, "pair": wrong})
        expect(self, InvalidPair, {"given": "cd"}, certify_sheet, some_sheets(1, 1)[1], "cd")

    def test_of_costs(self):
        piles = given(InvalidPile, no_piles_of(4))
        for second in ((0, 1, 0, 0), (0, 2, 0, 0)):
            expect_in_order(self, certify_cost, {"table": LANE, "first": (1, 0, 0, 0), "second": second}, {
                "table": given(NotATable, no_tables()), "first": piles, "second": piles,
            })
        expect(self, Unlike, {"given": -1}, certify_cost, LANE, (1, 0, 0, 0), (0, 0, 0, 2))
        for table in (LOOSE, TWIN, FORK):
            self.assertEqual(("cost", 0), (certify_cost(table, (1,) * len(table), (1,) * len(table))[0][0], certify_cost(table, (1,) * len(table), (1,) * len(table))[0][-1]))
