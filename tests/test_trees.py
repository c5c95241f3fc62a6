"""Trees, held against trees that were drawn, and against going through all things of both lots."""

import itertools
import unittest

from nearandfar.errors import (
    Halves, InvalidParting, InvalidParts, InvalidThings, NoTree, NotATable, TooMany, UnknownThing,
)
from nearandfar.tables import Table
from nearandfar.trees import (
    firm, firmness, from_pieces, is_tree, meeting, odd_four, own, path, pieces, places, tree_length,
)
from tests.drawn import drawn_trees
from tests.support import (
    CLOCK, FORK, KNOT, LANE, LOOSE, SQUARE, TWIN, expect, expect_in_order, given, lengths_of, line_table, make, many_tables,
    no_partings_of, no_tables, no_things_of, odd_values, pairs, random_tables, ring_table, subsets, wrong_parts,
)

TABLES = many_tables() + random_tables(31, (2, 3, 4, 5), 3, 12)
TREES = drawn_trees()


def lots_by_hand(things):
    return sorted(lot for lot in subsets(things) if things[0] not in lot)


def firmness_by_hand(lengths, things, parting):
    rest = [thing for thing in things if thing not in parting]
    least = min(
        min(lengths[t, v] + lengths[u, w], lengths[t, w] + lengths[u, v]) - lengths[t, u] - lengths[v, w]
        for t in rest for u in rest for v in parting for w in parting
    )
    return max(least, 0)


def sums_by_hand(lengths, four):
    one, two, three, last = four
    return sorted((
        lengths[one, two] + lengths[three, last], lengths[one, three] + lengths[two, last],
        lengths[one, last] + lengths[two, three],
    ))


def parted(parting, pair):
    return len(set(pair) & set(parting)) == 1


def told_own(things, found):
    """The doubled distances of a tree with these ties."""
    return tuple((pair, sum(number for parting, number in found if parted(parting, pair))) for pair in pairs(things))


class TestFirm(unittest.TestCase):
    def test_firmness(self):
        for table in TABLES:
            lengths = lengths_of(table)
            found = [(lot, firmness_by_hand(lengths, table.things, lot)) for lot in lots_by_hand(table.things)]
            for lot, number in found:
                self.assertEqual(number, firmness(table, lot))
            self.assertEqual(found[-1][1], firmness(parting=found[-1][0], table=table))
            told = tuple((lot, number) for lot, number in found if number > 0)
            self.assertEqual((told, told), (firm(table), firm(table=table)))

    def test_no_two_firm_partings_cross(self):
        for table in TABLES:
            for (one, _), (two, _) in itertools.combinations(firm(table), 2):
                rests = [set(table.things) - set(lot) for lot in (one, two)]
                meets = [set(one) & set(two), set(one) & rests[1], rests[0] & set(two), rests[0] & rests[1]]
                self.assertIn(set(), meets)

    def test_own(self):
        for table in TABLES:
            told = told_own(table.things, firm(table))
            self.assertTrue(all(length <= 2 * far for (_, length), (_, far) in zip(told, table.distances)))
            greatest = max(length for _, length in told)
            if greatest > 1000000:
                expect(self, TooMany, {"given": greatest}, own, table)
            else:
                self.assertEqual((Table(table.things, told),) * 2, (own(table), own(table=table)))

    def test_own_at_the_border(self):
        self.assertEqual((("ab", 1000000),), own(Table("ab", (("ab", 500000),))).distances)
        expect(self, TooMany, {"given": 1000002}, own, Table("ab", (("ab", 500001),)))
        wide = line_table("abc", (0, 400000, 1000000))
        expect(self, TooMany, {"given": 2000000}, own, table=wide)


class TestKind(unittest.TestCase):
    def test_odd_four(self):
        for table in TABLES:
            lengths = lengths_of(table)
            fours = list(itertools.combinations_with_replacement(table.things, 4))
            odd = ["".join(four) for four in fours if sums_by_hand(lengths, four)[1] != sums_by_hand(lengths, four)[2]]
            found = odd_four(table)
            self.assertEqual(found, odd_four(table=table))
            self.assertIn(found, odd or [None])
            self.assertEqual((not odd, not odd), (is_tree(table), is_tree(table=table)))
            doubled = tuple((pair, 2 * far) for pair, far in table.distances)
            self.assertIs(told_own(table.things, firm(table)) == doubled, is_tree(table))

    def test_known_kinds(self):
        for table in (LANE, FORK, CLOCK, TWIN, ring_table("abcd", (1, 0, 1, 0)), make("abcdefg", lambda x, y: 0)):
            self.assertIs(True, is_tree(table))
            self.assertIsNone(odd_four(table))
        for table in (SQUARE, KNOT, LOOSE, ring_table("abcdef", (1,) * 6), TWIN.changed("ac", 5)):
            self.assertIs(False, is_tree(table))
            self.assertEqual(4, len(odd_four(table)))
        # A table that is not right has an odd four with a thing twice.
        self.assertEqual(3, len(set(odd_four(LOOSE))))

    def test_drawn_trees(self):
        for tree in TREES:
            self.assertIs(True, is_tree(tree.table()))
            self.assertIsNone(odd_four(tree.table()))


class TestTree(unittest.TestCase):
    def test_the_trees_are_of_all_kinds(self):
        lengths = [length for tree in TREES for length in tree.ties.values()]
        self.assertTrue(any(length % 2 for length in lengths) and any(length > 1000 for length in lengths))
        heres = [tree.here(place) for tree in TREES for place in tree.places()]
        self.assertTrue(any(len(here) > 1 for here in heres) and any(here == "" for here in heres))
        self.assertEqual({2, 3, 4, 5, 6, 7}, {len(tree.things) for tree in TREES})
        self.assertTrue(any(tree.ties == {} for tree in TREES))

    def test_pieces(self):
        for tree in TREES:
            told, table = tree.told_pieces(), tree.table()
            self.assertEqual((told, told), (pieces(table), pieces(table=table)))
            self.assertEqual(told, firm(table))
            total = sum(tree.ties.values())
            self.assertEqual((total, total), (tree_length(table), tree_length(table=table)))
            self.assertEqual((table, table), (from_pieces(table.things, told), from_pieces(parts=told, things=table.things)))

    def test_places(self):
        for tree in TREES:
            told, table = tree.told_places(), tree.table()
            self.assertEqual((told, told), (places(table), places(table=table)))

    def test_path(self):
        for tree in TREES:
            table = tree.table()
            for one, two in itertools.product(tree.things, repeat=2):
                told = tuple(tree.here(place) for place in tree.way(tree.at[one], tree.at[two]))
                self.assertEqual(told, path(table, one, two))
            self.assertEqual(told, path(other=two, thing=one, table=table))

    def test_meeting(self):
        for tree in TREES:
            table = tree.table()
            for three in [*itertools.permutations(tree.things, 3), *itertools.product(tree.things[-2:], repeat=3)]:
                place = tree.middle(three)
                told = tuple(tree.doubled(tree.at[thing], place) for thing in three)
                self.assertEqual(told, meeting(table, *three))
            self.assertEqual(told, meeting(third=three[2], other=three[1], thing=three[0], table=table))

    def test_no_tree(self):
        for table in (SQUARE, KNOT, LOOSE, make("abc", lambda x, y: 1 if x == "a" else 1000000)):
            for call in (pieces, tree_length, places):
                expect(self, NoTree, {}, call, table)
                expect(self, NoTree, {}, call, table=table)
            expect(self, NoTree, {}, path, table, "a", "a")
            expect(self, NoTree, {}, meeting, table, "a", "b", "c")
        for table in (LANE, SQUARE):
            wrong, tables = given(UnknownThing, no_things_of("abcd")), given(NotATable, no_tables())
            expect_in_order(self, path, {"table": table, "thing": "a", "other": "b"}, {
                "table": tables, "thing": wrong, "other": wrong,
            })
            expect_in_order(self, meeting, {"table": table, "thing": "a", "other": "b", "third": "d"}, {
                "table": tables, "thing": wrong, "other": wrong, "third": wrong,
            })
        expect(self, UnknownThing, {"given": "z"}, path, SQUARE, "a", "z")
        expect(self, UnknownThing, {"given": "y"}, meeting, SQUARE, "a", "y", "z")


class TestErrors(unittest.TestCase):
    def test_tables(self):
        for call in (firm, odd_four, is_tree, own, pieces, tree_length, places):
            expect_in_order(self, call, {"table": LANE}, {"table": given(NotATable, no_tables())})
        expect_in_order(self, firmness, {"table": LANE, "parting": "cd"}, {
            "table": given(NotATable, no_tables()), "parting": given(InvalidParting, no_partings_of("abcd")),
        })


class TestFromPieces(unittest.TestCase):
    def test_no_ties_and_one(self):
        self.assertEqual(make("abc", lambda x, y: 0), from_pieces("abc", ()))
        self.assertEqual((("ab", 1000000),), from_pieces("ab", (("b", 2000000),)).distances)
        self.assertEqual((("ab", 3), ("ac", 3), ("bc", 0)), from_pieces("abc", (("bc", 6),)).distances)

    def test_halves_may_add_up(self):
        parts = tuple((lot, 1) for lot in ("b", "bcd", "c", "d"))
        self.assertEqual(make("abcd", lambda x, y: 1), from_pieces("abcd", parts))

    def test_order_of_errors(self):
        expect_in_order(self, from_pieces, {"things": "abcde", "parts": (("b", 2), ("cd", 4))}, {
            "things": given(InvalidThings, odd_values() + ["abcdefgh", "a", "abA", ("a", "b"), LANE]),
            "parts": wrong_parts((("b", 2), ("cd", 4)), 2000000),
        })

    def test_crossing_and_order(self):
        for parts, index in (
            ((("bc", 2), ("cd", 2)), 1), ((("b", 2), ("bc", 2), ("cd", 2)), 2), ((("bc", 2), ("bc", 3)), 1),
            ((("c", 2), ("bcd", 2)), 1), ((("bc", 1), ("bcd", 1), ("bd", 1), ("x", 1)), 2), ((("bc", 1), ("cd", 1), ("b", 0)), 1),
            ((("bc", 1), ("x", 1), ("cd", 1)), 1),
        ):
            expect(self, InvalidParts, {"index": index}, from_pieces, "abcde", parts)
            expect(self, InvalidParts, {"index": index}, from_pieces, things="abcde", parts=parts)

    def test_halves_and_too_many(self):
        expect(self, Halves, {"given": "ab"}, from_pieces, "abc", (("b", 1),))
        expect(self, Halves, {"given": "ac"}, from_pieces, "abc", (("b", 2), ("c", 1999999)))
        # Both are wrong: the half comes first.
        expect(self, Halves, {"given": "ac"}, from_pieces, "abc", (("b", 2000000), ("bc", 2000000), ("c", 1)))
        expect(self, TooMany, {"given": 1000001}, from_pieces, "abc", (("b", 2000000), ("bc", 2)))
        expect(self, TooMany, {"given": 2000000}, from_pieces, "abcd", (("b", 2000000), ("c", 2000000), ("d", 6)))
