"""Rests, held against strengths that are reckoned by all things of both lots, and against sums that are made."""

import itertools
import random
import unittest

from nearandfar.errors import (
    Halves, InvalidNumber, InvalidPair, InvalidParting, InvalidParts, InvalidThings, NotATable, TooMany,
)
from nearandfar.partings import clear, room, strength
from nearandfar.rests import bare, is_sum, made, rest, rests, share, taken
from nearandfar.tables import Table, times
from nearandfar.trees import is_tree, pieces
from tests.drawn import drawn_trees
from tests.support import (
    CLOCK, FORK, KNOT, LANE, LOOSE, SQUARE, TWIN, expect, expect_in_order, given, lengths_of, make, many_tables, no_pairs_of,
    no_partings_of, no_tables, odd_values, pairs, random_tables, ring_table, subsets, wrong_parts,
)

TABLES = many_tables()


def lots_by_hand(things):
    return sorted(lot for lot in subsets(things) if things[0] not in lot)


def strength_by_hand(lengths, things, parting):
    rest_of_them = [thing for thing in things if thing not in parting]
    rooms = []
    for t, u in itertools.combinations_with_replacement(rest_of_them, 2):
        for v, w in itertools.combinations_with_replacement(parting, 2):
            within = lengths[t, u] + lengths[v, w]
            rooms.append(max(lengths[t, v] + lengths[u, w], lengths[t, w] + lengths[u, v], within) - within)
    return min(rooms)


def strengths_by_hand(table):
    lengths = lengths_of(table)
    return {lot: strength_by_hand(lengths, table.things, lot) for lot in lots_by_hand(table.things)}


def parted(parting, pair):
    return len(set(pair) & set(parting)) == 1


def clash_by_hand(things, three):
    """Whether some four things are parted two from two in three manners."""
    for four in itertools.combinations(things, 4):
        sides = [frozenset(set(four) & set(lot)) for lot in three]
        halves = {frozenset((side, frozenset(four) - side)) for side in sides if len(side) == 2}
        if len(halves) == 3:
            return True
    return False


def random_sums(seed, count):
    """Things, and partings with numbers no three of which clash, so that all distances are whole."""
    chance = random.Random(seed)
    found = []
    for turn in range(count):
        things = "abcdefg"[:2 + turn % 6]
        lots = lots_by_hand(things)
        chance.shuffle(lots)
        kept = []
        for lot in lots[:chance.randint(1, 12)]:
            if not any(clash_by_hand(things, (one, two, lot)) for one, two in itertools.combinations(kept, 2)):
                kept.append(lot)
        found.append((things, tuple((lot, 2 * chance.randint(1, 9)) for lot in sorted(kept))))
    return found


class TestRests(unittest.TestCase):
    def test_shares_and_rests(self):
        for table in TABLES:
            numbers = strengths_by_hand(table)
            found = []
            for pair, far in table.distances:
                told = sum(number for lot, number in numbers.items() if parted(lot, pair))
                self.assertLessEqual(told, 2 * far)
                found.append((pair, 2 * far - told))
            at = len(found) // 2
            pair, number = found[at]
            told = 2 * table.far(*pair) - number
            self.assertEqual((told, told), (share(table, pair), share(pair=pair, table=table)))
            self.assertEqual((number, number), (rest(table, pair), rest(pair=pair, table=table)))
            self.assertEqual((tuple(found), tuple(found)), (rests(table), rests(table=table)))
            told = all(number == 0 for _, number in found)
            self.assertEqual((told, told), (is_sum(table), is_sum(table=table)))
            greatest = max(number for _, number in found)
            if greatest > 1000000:
                expect(self, TooMany, {"given": greatest}, bare, table)
                expect(self, TooMany, {"given": greatest}, bare, table=table)
            else:
                told = Table(table.things, tuple(found))
                self.assertEqual((told, told), (bare(table), bare(table=table)))

    def test_each_pair(self):
        for table in (LANE, FORK, SQUARE, KNOT, LOOSE, TWIN, *random_tables(3, (2, 4, 5, 6), 9, 2)):
            self.assertEqual(rests(table), tuple((pair, rest(table, pair)) for pair in pairs(table.things)))
            self.assertEqual([2 * far for _, far in table.distances], [share(table, pair) + rest(table, pair) for pair in pairs(table.things)])

    def test_known_kinds(self):
        for table in (LANE, FORK, SQUARE, CLOCK, TWIN, ring_table("abcdefg", (3, 1, 4, 1, 5, 9, 2)), make("abc", lambda x, y: 0)):
            self.assertIs(True, is_sum(table))
        for table in (KNOT, LOOSE, LANE.changed("ad", 7)):
            self.assertIs(False, is_sum(table))
        for tree in drawn_trees()[::3]:
            self.assertIs(True, is_sum(tree.table()))

    def test_bare_at_the_border(self):
        bent = Table("abc", (("ab", 1000000), ("ac", 250000), ("bc", 250000)))
        self.assertEqual(1000000, bare(bent).far("a", "b"))
        bent = bent.changed("ac", 249999)
        expect(self, TooMany, {"given": 1000002}, bare, bent)

    def test_what_is_left_has_no_clear_parting(self):
        for table in (KNOT, LOOSE, SQUARE, *random_tables(6, (3, 4, 5, 6), 12, 3)):
            self.assertEqual((), clear(bare(table)))

    def test_errors(self):
        tables = given(NotATable, no_tables())
        for call in (rests, is_sum, bare):
            expect_in_order(self, call, {"table": LANE}, {"table": tables})
        for call in (share, rest):
            wrong = given(InvalidPair, no_pairs_of("abcd"))
            expect_in_order(self, call, {"table": LANE, "pair": "ad"}, {"table": tables, "pair": wrong})


class TestTaken(unittest.TestCase):
    def test_all_numbers(self):
        for table in (SQUARE, FORK, TWIN, *random_tables(8, (2, 3, 4, 5), 9, 3)):
            numbers, left = strengths_by_hand(table), rests(table)
            for lot, number in numbers.items():
                for by in range(number // 2 + 1):
                    found = taken(table, lot, by)
                    self.assertEqual(found, taken(by=by, parting=lot, table=table))
                    told = tuple((pair, far - by if parted(lot, pair) else far) for pair, far in table.distances)
                    self.assertEqual(Table(table.things, told), found)
                    self.assertEqual({**numbers, lot: number - 2 * by}, strengths_by_hand(found))
                    self.assertEqual(left, rests(found))
                self.assertEqual(number - 2 * (number // 2), strength(found, lot))
                expect(self, InvalidNumber, {"given": number // 2 + 1}, taken, table, lot, number // 2 + 1)

    def test_odd_strengths(self):
        table = make("abc", lambda x, y: 1)
        self.assertEqual(1, strength(table, "b"))
        self.assertEqual(table, taken(table, "b", 0))
        expect(self, InvalidNumber, {"given": 1}, taken, table, "b", 1)

    def test_order_of_errors(self):
        expect_in_order(self, taken, {"table": SQUARE, "parting": "cd", "by": 1}, {
            "table": given(NotATable, no_tables()), "parting": given(InvalidParting, no_partings_of("abcd")),
            "by": given(InvalidNumber, odd_values() + [2, "1", (1,)]),
        })
        expect(self, InvalidNumber, {"given": True}, taken, SQUARE, "cd", True)
        expect(self, InvalidNumber, {"given": False}, taken, SQUARE, "bd", False)
        self.assertEqual(SQUARE, taken(SQUARE, "bd", 0))


class TestMade(unittest.TestCase):
    def test_random_sums(self):
        for things, parts in random_sums(1, 48):
            table = made(things, parts)
            self.assertEqual(table, made(parts=parts, things=things))
            told = tuple((pair, sum(number for lot, number in parts if parted(lot, pair)) // 2) for pair in pairs(things))
            self.assertEqual(told, table.distances)
            self.assertEqual(parts, clear(table))
            self.assertIs(True, is_sum(table))

    def test_some_cross(self):
        crossing = [parts for things, parts in random_sums(1, 48) if not is_tree(made(things, parts))]
        self.assertGreater(len(crossing), 5)
        self.assertEqual(SQUARE, made("abcd", (("bc", 2), ("cd", 2))))

    def test_trees(self):
        for tree in drawn_trees()[::5]:
            table = tree.table()
            self.assertEqual(table, made(table.things, pieces(table)))

    def test_clashing(self):
        for parts, index in (
            ((("bc", 2), ("bd", 2), ("cd", 2)), 2), ((("b", 1), ("bc", 2), ("bd", 2), ("c", 2), ("cd", 2), ("x", 1)), 4),
            ((("bc", 2), ("bd", 2), ("cd", 0)), 2), ((("bc", 2), ("bd", True), ("cd", 1)), 1),
            ((("bc", 2), ("bd", 2), ("cde", 2)), 2), ((("bc", 2), ("bc", 2)), 1), ((("cd", 2), ("bc", 2)), 1),
        ):
            expect(self, InvalidParts, {"index": index}, made, "abcde", parts)
            expect(self, InvalidParts, {"index": index}, made, things="abcde", parts=parts)

    def test_all_threes(self):
        for three in itertools.combinations(lots_by_hand("abcde"), 3):
            parts = tuple((lot, 2) for lot in three)
            if clash_by_hand("abcde", three):
                expect(self, InvalidParts, {"index": 2}, made, "abcde", parts)
            else:
                self.assertEqual(parts, clear(made("abcde", parts)))

    def test_errors(self):
        expect_in_order(self, made, {"things": "abcde", "parts": (("b", 2), ("cd", 4))}, {
            "things": given(InvalidThings, odd_values() + ["abcdefgh", "a", "abA", ("a", "b"), LANE]),
            "parts": wrong_parts((("b", 2), ("cd", 4)), 2000000),
        })
        expect(self, Halves, {"given": "ac"}, made, "abc", (("b", 2000000), ("bc", 2000000), ("c", 1)))
        expect(self, Halves, {"given": "ab"}, made, "abcd", (("bc", 1), ("cd", 2)))
        expect(self, TooMany, {"given": 2000000}, made, "abcd", (("bc", 2000000), ("cd", 2000000)))
        expect(self, TooMany, {"given": 1000001}, made, "abcd", (("bc", 2000000), ("cd", 2)))
        self.assertEqual(1000000, made("abcd", (("bc", 1999998), ("cd", 2))).far("a", "c"))
        self.assertEqual(make("ab", lambda x, y: 0), made("ab", ()))
        self.assertEqual(room(SQUARE, "a", "b", "c", "d"), strength(made("abcd", (("bc", 2), ("cd", 2))), "cd"))
        self.assertEqual(times(SQUARE, 2), made("abcd", (("bc", 4), ("cd", 4))))
