"""Moves, held against going through all plans between small piles."""

import itertools
import random
import unittest
from fractions import Fraction

from nearandfar.crowds import crowd, crowd_table
from nearandfar.errors import InvalidParts, InvalidPile, InvalidPiles, NotATable, UnknownThing, Unlike
from nearandfar.moves import amounts, best_places, cost, gather_cost, heights, nearest, parted_cost, plan
from nearandfar.piles import are_heights, gain, is_plan, plan_cost
from nearandfar.trees import pieces
from tests.drawn import drawn_trees
from tests.support import (
    CLOCK, FORK, KNOT, LANE, LOOSE, SQUARE, TWIN, expect, expect_in_order, given, line_table, make, no_tables, no_things_of,
    odd_values, random_tables, ring_table,
)
from tests.test_piles import no_piles_of, shortest


def all_plans(things, first, second):
    """All plans from the one pile to the other one, as dicts of the amounts from thing to thing."""
    over = {thing: one - two for thing, one, two in zip(things, first, second)}
    sinks = [thing for thing in things if over[thing] < 0]
    rows = [({}, {thing: -over[thing] for thing in sinks})]
    for thing in things:
        if over[thing] > 0:
            rows = [grown for row in rows for grown in sent(row, thing, over[thing], sinks)]
    return [row for row, lacks in rows if not any(lacks.values())]


def sent(row, thing, number, sinks):
    """All ways to send a number from a thing to others that lack something."""
    made, lacks = row
    if not sinks:
        return [row] if number == 0 else []
    found = []
    for amount in range(min(number, lacks[sinks[0]]) + 1):
        more = {(thing, sinks[0]): amount} if amount else {}
        found += sent(({**made, **more}, {**lacks, sinks[0]: lacks[sinks[0]] - amount}), thing, number - amount, sinks[1:])
    return found


def random_piles(chance, size, total):
    piles = []
    for _ in range(2):
        pile = [0] * size
        for _ in range(total):
            pile[chance.randrange(size)] += 1
        piles.append(tuple(pile))
    return piles


def cases(seed, count, total):
    """Tables with two small piles each."""
    chance = random.Random(seed)
    tables = [LANE, FORK, SQUARE, KNOT, CLOCK, LOOSE, TWIN] + random_tables(seed, (2, 3, 4, 5, 6), 9, 3)
    tables += random_tables(seed + 1, (4, 5, 6), 2, 6) + [make("abcd", lambda x, y: 0), ring_table("abcdef", (1,) * 6)]
    for turn in range(count):
        table = tables[turn % len(tables)]
        yield table, *random_piles(chance, len(table), chance.randint(0, total))


class TestPlans(unittest.TestCase):
    def test_small_piles(self):
        for table, first, second in cases(81, 200, 6):
            far = shortest(table)
            plans = all_plans(table.things, first, second)
            costs = [sum(amount * far(*going) for going, amount in row.items()) for row in plans]
            least = min(costs)
            self.assertEqual((least, least), (cost(table, first, second), cost(second=second, first=first, table=table)))
            told = plan(table, first, second)
            self.assertEqual(told, plan(second=second, first=first, table=table))
            self.assertTrue(is_plan(table, first, second, told))
            self.assertIn({(start, end): amount for start, end, amount in told}, plans)
            self.assertEqual(least, plan_cost(table, told))
            self.assertEqual(sorted(told), list(told))
            found = heights(table, first, second)
            self.assertEqual(found, heights(second=second, first=first, table=table))
            self.assertTrue(are_heights(table, found))
            self.assertEqual(least, gain(table, found, first, second))
            self.assertEqual(least, cost(table, second, first))

    def test_amounts(self):
        for table, first, second in cases(83, 300, 5):
            far = shortest(table)
            plans = all_plans(table.things, first, second)
            costs = [sum(amount * far(*going) for going, amount in row.items()) for row in plans]
            best = [row for row, total in zip(plans, costs) if total == min(costs)]
            for thing, other in itertools.product(table.things, repeat=2):
                numbers = [row.get((thing, other), 0) for row in best]
                told = (min(numbers), max(numbers))
                self.assertEqual(told, amounts(table, first, second, thing, other))
            self.assertEqual(told, amounts(other=other, thing=thing, second=second, first=first, table=table))

    def test_the_same_piles(self):
        for table in (LANE, LOOSE, TWIN, make("abcdefg", lambda x, y: 5)):
            for pile in ((0,) * len(table), (60,) * len(table), (7,) + (0,) * (len(table) - 1)):
                self.assertEqual(((), 0), (plan(table, pile, pile), cost(table, pile, pile)))
                self.assertTrue(are_heights(table, heights(table, pile, pile)))
                self.assertEqual((0, 0), amounts(table, pile, pile, "a", "b"))

    def test_twins(self):
        self.assertEqual(((("a", "b", 3),), 0), (plan(TWIN, (3, 0, 1), (0, 3, 1)), cost(TWIN, (3, 0, 1), (0, 3, 1))))
        self.assertEqual((3, 3), amounts(TWIN, (3, 0, 1), (0, 3, 1), "a", "b"))
        self.assertEqual((0, 0), amounts(TWIN, (3, 0, 1), (0, 3, 1), "a", "a"))

    def test_great_piles(self):
        # Sixty on each of seven things, and all the cheapest plans that they have.
        for table in random_tables(85, (7,), 1000000, 3) + [make("abcdefg", lambda x, y: 1000000), ring_table("abcdefg", (3, 1, 4, 1, 5, 9, 2))]:
            full = (60,) * 7
            self.assertEqual(((), 0), (plan(table, full, full), cost(table, full, full)))
            for first, second in (
                ((60, 60, 60, 0, 0, 0, 30), (0, 0, 0, 60, 60, 60, 30)), ((60, 0, 60, 0, 60, 0, 1), (1, 60, 0, 60, 0, 60, 0)),
                ((60, 60, 60, 60, 60, 60, 0), (59, 59, 59, 59, 59, 59, 6)), ((7, 11, 13, 17, 19, 23, 29), (29, 23, 19, 17, 13, 11, 7)),
            ):
                told, found = plan(table, first, second), heights(table, first, second)
                self.assertTrue(is_plan(table, first, second, told) and are_heights(table, found))
                self.assertEqual(plan_cost(table, told), gain(table, found, first, second))
                for start, end, amount in told:
                    least, greatest = amounts(table, first, second, start, end)
                    self.assertTrue(0 <= least <= amount <= greatest <= 60)

    def test_bounds_of_great_amounts(self):
        # All distances are alike: any amount can go anywhere.
        even = make("abcd", lambda x, y: 7)
        self.assertEqual((0, 60), amounts(even, (60, 60, 0, 0), (0, 0, 60, 60), "a", "c"))
        self.assertEqual((20, 50), amounts(even, (50, 30, 0, 0), (0, 0, 50, 30), "a", "c"))
        self.assertEqual((30, 40), amounts(even, (50, 10, 0, 0), (0, 0, 20, 40), "a", "d"))
        self.assertEqual((0, 0), amounts(even, (50, 30, 0, 0), (0, 0, 50, 30), "c", "a"))
        self.assertEqual((0, 0), amounts(even, (50, 30, 0, 0), (0, 0, 50, 30), "a", "b"))

    def test_cost_is_a_distance(self):
        for table in (LANE, LOOSE, KNOT):
            chance = random.Random(6)
            for _ in range(20):
                one, two = random_piles(chance, len(table), 4)
                third, _ = random_piles(chance, len(table), 4)
                self.assertLessEqual(cost(table, one, two), cost(table, one, third) + cost(table, third, two))
            for x, y in itertools.permutations(table.things, 2):
                heaps = [tuple(int(thing == at) for thing in table.things) for at in (x, y)]
                self.assertEqual(shortest(table)(x, y), cost(table, *heaps))

    def test_errors(self):
        piles, tables = given(InvalidPile, no_piles_of(4)), given(NotATable, no_tables())
        for second in ((0, 1, 0, 0), (0, 2, 0, 0)):
            right = {"table": LANE, "first": (1, 0, 0, 0), "second": second}
            wrong = {"table": tables, "first": piles, "second": piles}
            for call in (cost, plan, heights):
                expect_in_order(self, call, right, wrong)
            things = given(UnknownThing, no_things_of("abcd"))
            expect_in_order(self, amounts, {**right, "thing": "a", "other": "a"}, {**wrong, "thing": things, "other": things})
        for call, more in ((cost, ()), (plan, ()), (heights, ()), (amounts, ("a", "a"))):
            expect(self, Unlike, {"given": -1}, call, LANE, (1, 0, 0, 0), (0, 0, 0, 2), *more)
            expect(self, Unlike, {"given": 239}, call, LANE, (60, 60, 60, 60), (0, 0, 1, 0), *more)
        expect(self, UnknownThing, {"given": "z"}, amounts, LANE, (1, 0, 0, 0), (0, 0, 0, 2), "a", "z")


class TestGathering(unittest.TestCase):
    def test_best_places(self):
        for table, first, second in cases(87, 120, 12):
            far = shortest(table)
            for pile in (first, second):
                costs = {place: sum(number * far(thing, place) for thing, number in zip(table.things, pile)) for place in table.things}
                told = "".join(place for place in table.things if costs[place] == min(costs.values()))
                self.assertEqual((told, told), (best_places(table, pile), best_places(pile=pile, table=table)))
                self.assertEqual((min(costs.values()),) * 2, (gather_cost(table, pile), gather_cost(pile=pile, table=table)))

    def test_great_piles(self):
        table = make("abcdefg", lambda x, y: 1000000)
        self.assertEqual(("abcdefg", 360000000), (best_places(table, (60,) * 7), gather_cost(table, (60,) * 7)))
        self.assertEqual(("c", 120), (best_places(LANE, (0, 0, 60, 0)), gather_cost(LANE, (0, 60, 60, 0))))
        self.assertEqual(("abcd", 0), (best_places(LANE, (0, 0, 0, 0)), gather_cost(LANE, (0, 0, 0, 0))))

    def test_nearest(self):
        chance = random.Random(10)
        for table, first, _ in cases(89, 100, 5):
            piles = []
            for _ in range(chance.choice((1, 2, 5, 20))):
                piles.append(random_piles(chance, len(table), chance.choice((sum(first), sum(first), 7)))[0])
            costs = {at: cost(table, first, pile) for at, pile in enumerate(piles) if sum(pile) == sum(first)}
            told = tuple(at for at in sorted(costs) if costs[at] == min(costs.values()))
            piles = tuple(piles)
            self.assertEqual((told, told), (nearest(table, first, piles), nearest(piles=piles, pile=first, table=table)))
        self.assertEqual((), nearest(LANE, (1, 0, 0, 0), ((2, 0, 0, 0), (0, 0, 0, 0))))
        self.assertEqual((1, 2), nearest(LANE, (1, 0, 0, 0), ((2, 0, 0, 0), (1, 0, 0, 0), (1, 0, 0, 0), (0, 1, 0, 0))))
        self.assertEqual((0, 1), nearest(SQUARE, (1, 0, 0, 0), ((0, 1, 0, 0), (0, 0, 0, 1), (0, 0, 1, 0))))

    def test_errors(self):
        tables, piles = given(NotATable, no_tables()), given(InvalidPile, no_piles_of(4))
        for call in (best_places, gather_cost):
            expect_in_order(self, call, {"table": LANE, "pile": (1, 2, 3, 4)}, {"table": tables, "pile": piles})
        good = (0, 1, 0, 0)
        wrong = [value for value in odd_values() if not isinstance(value, tuple)] + [(), (good,) * 21, [good], (good,) * 22, {good: 1}]
        rows = [(value, InvalidPiles, {"index": None}) for value in wrong]
        for pile in no_piles_of(4):
            rows += [((pile, good), InvalidPiles, {"index": 0}), ((good, good, pile, ()), InvalidPiles, {"index": 2})]
        rows += [(good, InvalidPiles, {"index": 0}), ((good,) * 19 + ((),), InvalidPiles, {"index": 19})]
        rows += [(((),) * 21, InvalidPiles, {"index": None})]
        expect_in_order(self, nearest, {"table": LANE, "pile": (1, 0, 0, 0), "piles": (good,)}, {
            "table": tables, "pile": piles, "piles": rows,
        })
        self.assertEqual(tuple(range(20)), nearest(LANE, (1, 0, 0, 0), (good,) * 20))


def parted_by_hand(things, marks, first, second):
    total = Fraction(0)
    for lot, (top, bottom) in marks:
        total += Fraction(top, bottom) * abs(sum(one - two for thing, one, two in zip(things, first, second) if thing in lot))
    return total.numerator, total.denominator


class TestPartedCost(unittest.TestCase):
    def test_crowds(self):
        shown = 0
        for table, first, second in cases(91, 120, 6):
            marks = crowd(table)
            if marks is None:
                expect(self, InvalidParts, {"index": None}, parted_cost, table, (), first, second)
                continue
            shown += 1
            told = parted_by_hand(table.things, marks, first, second)
            self.assertEqual(told, parted_cost(table, marks, first, second))
            self.assertEqual(told, parted_cost(second=second, first=first, marks=marks, table=table))
            self.assertLessEqual(Fraction(*told), cost(table, first, second))
        self.assertGreater(shown, 30)

    def test_trees_and_lines(self):
        # On a tree, and so on a line, it is the least cost; seven things are no bar.
        chance = random.Random(12)
        tables = [tree.table() for tree in drawn_trees()[::2]] + [line_table("abcdefg", (0, 3, 1, 4, 1, 5, 9)), LANE]
        for table in tables:
            marks = tuple((lot, halved(number)) for lot, number in pieces(table))
            for _ in range(4):
                first, second = random_piles(chance, len(table), 9)
                self.assertEqual((cost(table, first, second), 1), parted_cost(table, marks, first, second))

    def test_fractions(self):
        table = make("abc", lambda x, y: 1)
        marks = (("b", (1, 2)), ("bc", (1, 2)), ("c", (1, 2)))
        self.assertEqual((1, 1), parted_cost(table, marks, (1, 0, 0), (0, 1, 0)))
        third = (("b", (1, 3)), ("bc", (2, 3)), ("bcd", (1, 3)), ("bd", (2, 3)), ("c", (1, 3)), ("cd", (2, 3)), ("d", (1, 3)))
        # A third for each single thing, and twice 2 / 3 for cd against ab.
        self.assertEqual((8, 3), parted_cost(make("abcd", lambda x, y: 2), third, (1, 1, 0, 0), (0, 0, 1, 1)))
        self.assertEqual((0, 1), parted_cost(table, marks, (1, 2, 3), (1, 2, 3)))

    def test_errors(self):
        marks = (("bc", (1, 1)), ("cd", (1, 1)))
        piles = given(InvalidPile, no_piles_of(4))
        wrong = odd_values() + [(), list(marks), marks[:1], marks[::-1], (("bc", (1, 1)), ("cd", (2, 1))), (("bc", 1), ("cd", 1)), (marks[0], None)]
        for second in ((0, 0, 1, 0), (0, 0, 3, 0)):
            expect_in_order(self, parted_cost, {"table": SQUARE, "marks": marks, "first": (1, 0, 0, 0), "second": second}, {
                "table": given(NotATable, no_tables()), "marks": [(value, InvalidParts, {"index": None}) for value in wrong],
                "first": piles, "second": piles,
            })
        expect(self, Unlike, {"given": -2}, parted_cost, SQUARE, marks, (1, 0, 0, 0), (0, 0, 3, 0))
        self.assertEqual(crowd_table("abcd", (("bc", 1), ("cd", 1))), SQUARE)


def halved(number):
    weight = Fraction(number, 2)
    return weight.numerator, weight.denominator
