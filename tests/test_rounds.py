"""Rounds and trips, held against going through all orders, fours and numbers of runs."""

import itertools
import random
import unittest

from nearandfar.errors import (
    InvalidOrder, InvalidParting, InvalidParts, InvalidThings, NotATable, NotRight, NotRound, TooFar,
)
from nearandfar.partings import clear
from nearandfar.rounds import all_orders, bad_four, round_orders, run_numbers, table_of_runs
from nearandfar.trips import crossings, shortest_length, shortest_trips, trip_length
from nearandfar.ways import long_three
from tests.drawn import drawn_trees
from tests.support import (
    CLOCK, FORK, KNOT, LANE, LOOSE, SQUARE, TWIN, caught, closed_by_hand, expect, expect_in_order, given, is_right_by_hand,
    lengths_of, line_table, make, many_tables, no_tables, odd_values, pairs, random_tables, ring_table, wrong_parts,
)

TABLES = many_tables()
TABLES += [closed_by_hand(table) for table in random_tables(17, (4, 5, 6), 6, 6)]
TABLES += [ring_table("acefhkz"[:size], (3, 1, 4, 1, 5, 9, 2)[:size]) for size in range(2, 8)]


def orders_by_hand(things):
    found = []
    for row in itertools.permutations(things):
        if row[0] == things[0] and not (len(things) > 2 and row[1] > row[-1]):
            found.append("".join(row))
    return sorted(found)


def bad_fours_by_hand(table, order):
    lengths, found = lengths_of(table), []
    for places in itertools.combinations(range(len(order)), 4):
        t, u, v, w = (order[place] for place in places)
        over = lengths[t, v] + lengths[u, w]
        if over < lengths[t, u] + lengths[v, w] or over < lengths[u, v] + lengths[t, w]:
            found.append(t + u + v + w)
    return found


def runs_by_hand(order):
    """All runs: the spans of places without the first one, with the things at their ends and beside them."""
    size, found = len(order), []
    for start in range(1, size):
        for end in range(start, size):
            lot = "".join(sorted(order[start:end + 1]))
            found.append((lot, order[start], order[end], order[start - 1], order[(end + 1) % size]))
    return found


def numbers_by_hand(table, order):
    lengths = lengths_of(table)
    return {lot: lengths[p, y] + lengths[x, q] - lengths[x, y] - lengths[p, q] for lot, x, y, p, q in runs_by_hand(order)}


def parted(parting, pair):
    return len(set(pair) & set(parting)) == 1


def no_orders_of(things):
    """Values that are no order of abcd or other things."""
    return odd_values() + [
        things[0] + things[:0:-1], things[1:] + things[0], things[:-1], things + "z", things.upper(), things[:-1] + things[-2],
        things[1] + things[0] + things[2:], tuple(things), [things], things + "\n", "", 3,
    ]


class TestOrders(unittest.TestCase):
    def test_all_orders(self):
        for table in TABLES:
            told = tuple(orders_by_hand(table.things))
            self.assertEqual((told, told), (all_orders(table), all_orders(table=table)))
        self.assertEqual([1, 1, 3, 12, 60, 360], [len(all_orders(make("abcdefg"[:size], lambda x, y: 1))) for size in range(2, 8)])

    def test_bad_four_and_round_orders(self):
        for table in TABLES:
            if not is_right_by_hand(table):
                continue
            fours = {order: bad_fours_by_hand(table, order) for order in orders_by_hand(table.things)}
            for order in list(fours)[::1 if len(table) < 6 else 7]:
                told = fours[order][0] if fours[order] else None
                self.assertEqual(told, bad_four(table, order))
            self.assertEqual(told, bad_four(order=order, table=table))
            told = tuple(order for order, found in fours.items() if not found)
            self.assertEqual((told, told), (round_orders(table), round_orders(table=table)))

    def test_not_right(self):
        for table in TABLES + random_tables(23, (3, 4), 9, 4):
            order = orders_by_hand(table.things)[-1]
            for call, more in ((bad_four, (order,)), (round_orders, ()), (run_numbers, (order,))):
                error = caught(call, table, *more)
                if is_right_by_hand(table):
                    self.assertFalse(isinstance(error, NotRight))
                else:
                    self.assertIs(NotRight, error.__class__)
                    x, y, z = error.given
                    self.assertGreater(table.far(x, z), table.far(x, y) + table.far(y, z))
                    self.assertEqual(long_three(table), error.given)

    def test_known_kinds(self):
        for tree in drawn_trees()[::4]:
            self.assertNotEqual((), round_orders(tree.table()))
        self.assertIn("acefhkz", round_orders(ring_table("acefhkz", (3, 1, 4, 1, 5, 9, 2))))
        self.assertEqual(("ab",), round_orders(make("ab", lambda x, y: 0)))
        self.assertEqual((), round_orders(KNOT))

    def test_errors(self):
        tables, orders = given(NotATable, no_tables()), given(InvalidOrder, no_orders_of("abcd"))
        for call in (all_orders, round_orders, shortest_length, shortest_trips):
            expect_in_order(self, call, {"table": SQUARE}, {"table": tables})
        for call in (bad_four, run_numbers, trip_length):
            for table in (SQUARE, LANE.changed("ad", 7)):
                expect_in_order(self, call, {"table": table, "order": "abcd"}, {"table": tables, "order": orders})
            expect(self, InvalidOrder, {"given": "ba"}, call, make("ab", lambda x, y: 1), "ba")
            expect(self, InvalidOrder, {"given": "acb"}, call, LOOSE, "acb")


class TestRuns(unittest.TestCase):
    def test_numbers(self):
        for table in TABLES:
            if not is_right_by_hand(table):
                continue
            for order in orders_by_hand(table.things)[::1 if len(table) < 6 else 11]:
                bad, numbers = bad_fours_by_hand(table, order), numbers_by_hand(table, order)
                self.assertIs(bool(bad), any(number < 0 for number in numbers.values()))
                if bad:
                    expect(self, NotRound, {"given": bad[0]}, run_numbers, table, order)
                    expect(self, NotRound, {"given": bad[0]}, run_numbers, order=order, table=table)
                    continue
                told = tuple(sorted((lot, number) for lot, number in numbers.items() if number > 0))
                self.assertEqual((told, told), (run_numbers(table, order), run_numbers(order=order, table=table)))
                self.assertEqual(told, clear(table))
                self.assertEqual((table, table), (
                    table_of_runs(table.things, order, told), table_of_runs(numbers=told, order=order, things=table.things),
                ))

    def test_not_right_comes_ahead_of_not_round(self):
        spoilt = KNOT.changed("ab", 3)
        self.assertNotEqual([], bad_fours_by_hand(spoilt, "abcde"))
        expect(self, NotRight, {"given": long_three(spoilt)}, run_numbers, spoilt, "abcde")

    def test_any_numbers_of_runs(self):
        chance = random.Random(5)
        for turn in range(60):
            things = "bdfhkmz"[:2 + turn % 6]
            order = chance.choice(orders_by_hand(things))
            lots = sorted(lot for lot, *_ in runs_by_hand(order))
            kept = sorted(chance.sample(lots, chance.randint(0, len(lots))))
            numbers = tuple((lot, 2 * chance.randint(1, 9)) for lot in kept)
            table = table_of_runs(things, order, numbers)
            told = tuple((pair, sum(number for lot, number in numbers if parted(lot, pair)) // 2) for pair in pairs(things))
            self.assertEqual((things, told), (table.things, table.distances))
            self.assertEqual(numbers, run_numbers(table, order))

    def test_too_far(self):
        make_abc = lambda numbers: (table_of_runs, "abc", "abc", numbers)
        self.assertEqual(make("abc", lambda x, y: 0), table_of_runs("abc", "abc", ()))
        self.assertEqual(1000000, table_of_runs("abc", "abc", (("b", 1999998), ("bc", 2))).far("a", "b"))
        self.assertEqual((("ab", 1), ("ac", 1), ("bc", 1)), table_of_runs("abc", "abc", (("b", 1), ("bc", 1), ("c", 1))).distances)
        for numbers, pair in (
            ((("b", 1),), "ab"), ((("b", 2), ("c", 1)), "ac"), ((("b", 2000000), ("bc", 2)), "ab"),
            ((("b", 2), ("bc", 1999999), ("c", 3)), "ab"), ((("b", 2000000), ("c", 2000000)), "bc"),
            ((("bc", 2000000), ("c", 3)), "ac"), ((("b", 4), ("bc", 1999997), ("c", 5)), "ab"),
        ):
            expect(self, TooFar, {"given": pair}, *make_abc(numbers))
            expect(self, TooFar, {"given": pair}, table_of_runs, numbers=numbers, order="abc", things="abc")

    def test_errors_of_table_of_runs(self):
        good = (("b", 2), ("cd", 4))
        expect_in_order(self, table_of_runs, {"things": "abcde", "order": "abcde", "numbers": good}, {
            "things": given(InvalidThings, odd_values() + ["abcdefgh", "a", "abA", ("a", "b"), SQUARE]),
            "order": given(InvalidOrder, no_orders_of("abcde")),
            "numbers": wrong_parts(good, 2000000),
        })
        # What is no run of the one order is a run of the other one.
        numbers = (("b", 2), ("bc", 2), ("cd", 2))
        self.assertEqual("abcd", table_of_runs("abcd", "abcd", numbers).things)
        expect(self, InvalidParts, {"index": 1}, table_of_runs, "abcd", "abdc", numbers)
        expect(self, InvalidParts, {"index": 0}, table_of_runs, "abcd", "abcd", (("bd", 2),))
        expect(self, InvalidParts, {"index": 1}, table_of_runs, "abcd", "abcd", (("b", 2), ("b", 4)))
        expect(self, InvalidParts, {"index": 1}, table_of_runs, "abcd", "abcd", (("c", 2), ("b", 4)))
        expect(self, InvalidOrder, {"given": "abcd"}, table_of_runs, "abc", "abcd", numbers)


class TestTrips(unittest.TestCase):
    def test_all_trips(self):
        for table in TABLES:
            lengths = lengths_of(table)
            trips = {}
            for order in orders_by_hand(table.things):
                trips[order] = sum(lengths[order[at - 1], order[at]] for at in range(len(order)))
            for order, length in list(trips.items())[::1 if len(table) < 6 else 13]:
                self.assertEqual((length, length), (trip_length(table, order), trip_length(order=order, table=table)))
            shortest = min(trips.values())
            self.assertEqual((shortest, shortest), (shortest_length(table), shortest_length(table=table)))
            told = tuple(order for order, length in trips.items() if length == shortest)
            self.assertEqual((told, told), (shortest_trips(table), shortest_trips(table=table)))

    def test_two_and_three_things(self):
        self.assertEqual((14, 14, ("ab",)), (trip_length(*two_sevens()), shortest_length(two_sevens()[0]), shortest_trips(two_sevens()[0])))
        self.assertEqual((14, ("abc",)), (shortest_length(LOOSE), shortest_trips(LOOSE)))

    def test_round_tables(self):
        # Point 23: the trip by an order by which a table is round-right is as long as the numbers of its runs together.
        for table in (LANE, SQUARE, FORK, CLOCK, TWIN, line_table("abcdef", (3, 1, 4, 1, 5, 9)), ring_table("abcdef", (1, 2, 3, 1, 1, 5))):
            for order in round_orders(table):
                self.assertEqual(shortest_length(table), sum(number for _, number in run_numbers(table, order)))
                self.assertIn(order, shortest_trips(table))

    def test_crossings(self):
        for letters in ("az", "bcx", "abcd", "cdmno", "abcdef", "abcdefg"):
            lots = ["".join(lot) for size in range(1, len(letters)) for lot in itertools.combinations(letters[1:], size)]
            for order in orders_by_hand(letters)[::1 if len(letters) < 6 else 17]:
                for lot in lots:
                    told = sum((order[at - 1] in lot) is not (order[at] in lot) for at in range(len(order)))
                    self.assertEqual((told, told), (crossings(order, lot), crossings(parting=lot, order=order)))

    def test_crossings_of_runs(self):
        for order in orders_by_hand("abcdef"):
            runs = {lot for lot, *_ in runs_by_hand(order)}
            for lot in ("b", "bd", "cdf", "bcdef", "ef"):
                self.assertIs(lot in runs, crossings(order, lot) == 2)

    def test_errors_of_crossings(self):
        orders = odd_values() + ["a", "abcdefgh", "acb", "bac", "abb", "aab", "abA", "Aab", "a b", ("a", "b"), "ba", "abd~", "adcb", 3]
        lots = odd_values() + ["a", "ab", "abcd", "e", "bb", "db", "", "B", ("b",), ["b"], "bcde", 1]
        expect_in_order(self, crossings, {"order": "abcd", "parting": "bd"}, {
            "order": given(InvalidOrder, orders),
            "parting": given(InvalidParting, lots),
        })
        expect(self, InvalidParting, {"given": "c"}, crossings, "ab", "c")


def two_sevens():
    return make("ab", lambda x, y: 7), "ab"
