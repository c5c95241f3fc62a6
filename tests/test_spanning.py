"""Least trees, held against all tuples of pairs."""

import itertools
import unittest

from nearandfar.clocks import level
from nearandfar.errors import InvalidPair, NotATable, TooMany
from nearandfar.spanning import count_least_trees, greatest_kept, least_sum, least_tree, least_trees, standing
from tests.support import (
    LANE, expect, expect_in_order, given, make, many_tables, no_pairs_of, no_tables,
    pairs, random_tables,
)

SMALL = [table for table in many_tables() if len(table) <= 5]
SMALL += random_tables(51, (2, 3, 4, 5), 2, 8) + random_tables(52, (3, 4, 5), 1, 8) + random_tables(53, (4, 5), 5, 5)
SMALL += [make("abcde"[:size], lambda x, y: far) for size in (2, 3, 4, 5) for far in (0, 1, 1000000)]


def hang_together(things, tree):
    lot = {things[0]}
    for _ in things:
        lot |= {thing for pair in tree if lot & set(pair) for thing in pair}
    return lot == set(things)


def trees_by_hand(table):
    """All least trees: of all tuples of pairs by which the things hang together those with the least sum."""
    far, found = dict(table.distances), []
    for tree in itertools.combinations(pairs(table.things), len(table) - 1):
        if hang_together(table.things, tree):
            found.append((sum(far[pair] for pair in tree), tree))
    least = min(total for total, _ in found)
    return least, tuple(tree for total, tree in found if total == least)


# Pairs with the distances 1 and 2, the others having 9, and how many least trees there are: up to 400 are told.
BORDER = (
    ("ag be bf cd ce cf de df ef", "ag", 400), ("ab ac ad ae bf bg cd ce cg df ef fg", "", 399),
    ("ad af ag bc bd bf cd cf cg de ef eg", "ad ae ag bg cf de dg ef", 408),
)
KNOWN = [(table, *trees_by_hand(table)) for table in SMALL]


class TestTrees(unittest.TestCase):
    def test_all_trees(self):
        for table, least, trees in KNOWN:
            self.assertEqual((least, least), (least_sum(table), least_sum(table=table)))
            self.assertEqual((len(trees),) * 2, (count_least_trees(table), count_least_trees(table=table)))
            self.assertEqual((trees, trees), (least_trees(table), least_trees(table=table)))
            self.assertIn(least_tree(table), trees)
            self.assertEqual(least_tree(table), least_tree(table=table))

    def test_six_and_seven_things(self):
        for table in random_tables(54, (6,), 9, 4) + random_tables(55, (6,), 2, 2) + [make("abcdef", lambda x, y: 3)]:
            least, trees = trees_by_hand(table)
            self.assertEqual((least, len(trees)), (least_sum(table), count_least_trees(table)))
            self.assertIn(least_tree(table), trees)
            if len(trees) > 400:
                expect(self, TooMany, {"given": len(trees)}, least_trees, table)
                expect(self, TooMany, {"given": len(trees)}, least_trees, table=table)
            else:
                self.assertEqual(trees, least_trees(table))

    def test_all_alike(self):
        # Cayley: so many trees are there on so many things.
        for size, many in ((2, 1), (3, 3), (4, 16), (5, 125), (6, 1296), (7, 16807)):
            for far in (0, 8):
                table = make("bcdegxz"[:size], lambda x, y: far)
                self.assertEqual((many, far * (size - 1)), (count_least_trees(table), least_sum(table)))
                self.assertTrue(hang_together(table.things, least_tree(table)))
                if many > 400:
                    expect(self, TooMany, {"given": many}, least_trees, table)
                else:
                    self.assertEqual(many, len(set(least_trees(table))))

    def test_the_border(self):
        for near, middling, many in BORDER:
            near, middling = near.split(), middling.split()
            table = make("abcdefg", lambda x, y: 1 if x + y in near else 2 if x + y in middling else 9)
            self.assertEqual(many, count_least_trees(table))
            if many > 400:
                expect(self, TooMany, {"given": many}, least_trees, table)
            else:
                self.assertEqual(many, len(set(least_trees(table))))

    def test_seven_things(self):
        for table in random_tables(56, (7,), 1000000, 2) + [make("abcdefg", lambda x, y: ord(y) - ord(x))]:
            tree = least_tree(table)
            self.assertEqual((least_sum(table), 6), (sum(table.far(*pair) for pair in tree), len(tree)))
            self.assertTrue(hang_together(table.things, tree))
            self.assertIn(tree, least_trees(table))
            # The level of a pair is the greatest distance on its way in a least tree.
            for pair in pairs(table.things):
                lots = [far for far in sorted(table.far(*tie) for tie in tree) if joins(table, tree, pair, far)]
                self.assertEqual(lots[0], level(table, pair))

    def test_errors(self):
        for call in (least_sum, count_least_trees, least_trees, least_tree):
            expect_in_order(self, call, {"table": LANE}, {"table": given(NotATable, no_tables())})


def joins(table, tree, pair, far):
    """Whether the pair hangs together by those ties of a tree that are not farther."""
    lot = {pair[0]}
    for _ in tree:
        lot |= {thing for tie in tree if table.far(*tie) <= far and lot & set(tie) for thing in tie}
    return pair[1] in lot


class TestStanding(unittest.TestCase):
    def test_standing(self):
        for table, _, trees in KNOWN:
            for pair in pairs(table.things):
                many = sum(pair in tree for tree in trees)
                told = "none" if many == 0 else "all" if many == len(trees) else "some"
                self.assertEqual((told, told), (standing(table, pair), standing(pair=pair, table=table)))

    def test_greatest_kept(self):
        for table in SMALL:
            for pair in pairs(table.things):
                number = greatest_kept(table, pair)
                self.assertEqual(number, greatest_kept(pair=pair, table=table))
                if len(table) == 2:
                    self.assertIsNone(number)
                    continue
                self.assertTrue(any(pair in tree for tree in trees_by_hand(table.changed(pair, number))[1]))
                if number < 1000000:
                    self.assertFalse(any(pair in tree for tree in trees_by_hand(table.changed(pair, number + 1))[1]))

    def test_two_things(self):
        for far in (0, 7, 1000000):
            table = make("qz", lambda x, y: far)
            self.assertEqual(("all", None), (standing(table, "qz"), greatest_kept(table, "qz")))

    def test_errors(self):
        for call in (standing, greatest_kept):
            expect_in_order(self, call, {"table": LANE, "pair": "ad"}, {
                "table": given(NotATable, no_tables()), "pair": given(InvalidPair, no_pairs_of("abcd")),
            })
