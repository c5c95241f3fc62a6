"""Piles, plans and heights, held against their words."""

import itertools
import random
import unittest

from nearandfar.errors import InvalidHeights, InvalidParts, InvalidPile, NotATable, Unlike
from nearandfar.piles import after, are_heights, gain, is_pile, is_plan, plan_cost
from tests.support import (
    KNOT, LANE, LOOSE, SQUARE, TWIN, caught, closed_by_hand, expect, expect_in_order, given, make, many_tables, no_tables,
    odd_values, random_tables,
)


def no_piles_of(size):
    """Values that are no pile of so many things."""
    ones = (1,) * size
    return odd_values() + [
        (), ones[1:], ones + (1,), list(ones), (61,) + ones[1:], (-1,) + ones[1:], (True,) + ones[1:], ones[1:] + (False,),
        (None,) + ones[1:], ("1",) + ones[1:], ((1,),) + ones[1:], "1" * size, (10 ** 50,) + ones[1:], ones[1:] + (61,),
    ]


def wrong_goings():
    """Elements that cannot stand in a plan for the things abcd, wherever they stand."""
    return odd_values() + [
        (), ("a", "b"), ("a", "b", 1, 1), ["a", "b", 1], ("a", "a", 1), ("a", "z", 1), ("z", "b", 1), ("a", "b", 0), ("a", "b", -1),
        ("a", "b", True), ("a", "b", None), ("a", "b", "1"), ("a", "b", 1000001), ("A", "b", 1), (("a",), "b", 1), ("a", "bc", 1),
        ("ab", "c", 1), ("", "b", 1), ("a", "", 1), (None, "b", 1), ("a", 1, "b"), ("a", "b", (1,)), "ab1", ("a", ["b"], 1),
    ]


def wrong_plans():
    """Triples for expect_in_order of what is no plan for the things abcd."""
    good = ("a", "b", 1)
    rows = [(value, InvalidParts, {"index": None}) for value in odd_values() if not isinstance(value, tuple)]
    rows += [([good], InvalidParts, {"index": None}), ({good: 1}, InvalidParts, {"index": None})]
    rows += [(good, InvalidParts, {"index": 0})]
    for element in wrong_goings():
        rows += [((element, good), InvalidParts, {"index": 0}), ((good, element, "z"), InvalidParts, {"index": 1})]
    for plan, index in (
        ((good, good), 1), ((good, ("a", "b", 2)), 1), ((("a", "c", 1), good), 1), ((("b", "a", 1), good), 1),
        ((good, ("b", "c", 1)), 1), ((good, ("c", "a", 1)), 1), ((good, ("a", "c", 1), ("b", "d", 1)), 2),
        ((good, ("c", "b", 1), ("d", "a", 1)), 2), ((good, ("a", "c", 1), ("d", "b", 1), ("d", "b", 3)), 3),
        ((("a", "d", 1), ("b", "c", 1), ("c", "d", 1)), 2), ((("b", "d", 1), ("c", "d", 1), ("b", "a", 1)), 2),
    ):
        rows.append((plan, InvalidParts, {"index": index}))
    return rows


def shortest(table):
    closed = closed_by_hand(table)
    return lambda x, y: 0 if x == y else closed.far(x, y)


def random_plan(chance, things):
    """A plan between some things of which none stands on both sides."""
    side = {thing: chance.randrange(3) for thing in things}
    goings = [(x, y) for x in things for y in things if side[x] == 0 and side[y] == 1]
    kept = chance.sample(goings, chance.randint(0, len(goings)))
    return tuple((x, y, chance.randint(1, 9)) for x, y in sorted(kept))


def moved(things, pile, plan):
    left = dict(zip(things, pile))
    for start, end, amount in plan:
        left[start] -= amount
        left[end] += amount
    return tuple(left.values())


class TestPiles(unittest.TestCase):
    def test_is_pile(self):
        for table in (LANE, KNOT, LOOSE, make("az", lambda x, y: 0), make("abcdefg", lambda x, y: 3)):
            size = len(table)
            for value in ((0,) * size, (60,) * size, tuple(range(size)), (60,) + (0,) * (size - 1)):
                self.assertEqual((True, True), (is_pile(table, value), is_pile(value=value, table=table)))
            for value in no_piles_of(size):
                self.assertEqual((False, False), (is_pile(table, value), is_pile(value=value, table=table)))
        expect_in_order(self, is_pile, {"table": LANE, "value": ()}, {"table": given(NotATable, no_tables())})


class TestPlans(unittest.TestCase):
    def test_is_plan(self):
        chance = random.Random(3)
        seen = set()
        for turn in range(400):
            things = "acfhknz"[:2 + turn % 6]
            table = make(things, lambda x, y: ord(y) - ord(x))
            first = tuple(chance.randint(0, 60) for _ in things)
            plan = random_plan(chance, things)
            second = moved(things, first, plan)
            if not all(0 <= number <= 60 for number in second):
                continue
            seen.add(len(plan))
            self.assertEqual((True, True), (
                is_plan(table, first, second, plan), is_plan(value=plan, second=second, first=first, table=table)))
            for value in (list(plan), plan[:-1], plan + (("a", "c", 1),), plan[::-1]):
                told = value == plan and isinstance(value, tuple)
                self.assertIs(told, is_plan(table, first, second, value))
            if plan:
                start, end, amount = plan[0]
                self.assertIs(False, is_plan(table, first, second, ((start, end, amount + 1),) + plan[1:]))
        self.assertLessEqual({0, 1, 2, 3, 4, 5}, seen)

    def test_no_plans(self):
        first, second = (2, 2, 2, 2), (1, 3, 2, 2)
        self.assertIs(True, is_plan(LANE, first, second, (("a", "b", 1),)))
        for element in wrong_goings():
            self.assertIs(False, is_plan(LANE, first, second, element))
            self.assertIs(False, is_plan(LANE, first, second, (element,)))
            self.assertIs(False, is_plan(LANE, first, second, (("a", "b", 1), element)))
            self.assertIs(False, is_plan(LANE, first, second, (element, ("a", "b", 1))))
        for value in (
            (), (("a", "b", 2),), (("b", "a", 1),), (("a", "c", 1), ("c", "b", 1)), (("a", "b", 2), ("b", "a", 1)),
            (("a", "b", 1), ("c", "c", 1)), (("a", "b", 1), ("c", "d", 0)), (("a", "b", 1), ("a", "b", 1)),
        ):
            self.assertIs(False, is_plan(LANE, first, second, value))
        # What they add up to is right, but some are not ascending, or go on from where something came to.
        self.assertIs(False, is_plan(LANE, (3, 0, 0, 0), (1, 1, 1, 0), (("a", "c", 1), ("a", "b", 1))))
        self.assertIs(True, is_plan(LANE, (3, 0, 0, 0), (1, 1, 1, 0), (("a", "b", 1), ("a", "c", 1))))
        self.assertIs(False, is_plan(LANE, (3, 0, 0, 0), (1, 1, 1, 0), (("a", "b", 2), ("b", "c", 1))))
        self.assertIs(False, is_plan(LANE, (3, 0, 0, 0), (1, 2, 0, 0), (("a", "b", 1), ("a", "b", 1))))

    def test_unlike_sums(self):
        self.assertIs(False, is_plan(LANE, (1, 0, 0, 0), (0, 2, 0, 0), (("a", "b", 1),)))
        self.assertIs(False, is_plan(LANE, (1, 0, 0, 0), (0, 0, 0, 0), ()))
        self.assertIs(True, is_plan(LANE, (1, 0, 0, 0), (1, 0, 0, 0), ()))

    def test_errors_of_is_plan(self):
        right = {"table": LANE, "first": (1, 0, 0, 0), "second": (0, 1, 0, 0), "value": ()}
        piles = given(InvalidPile, no_piles_of(4))
        expect_in_order(self, is_plan, right, {"table": given(NotATable, no_tables()), "first": piles, "second": piles})

    def test_cost_and_after(self):
        chance = random.Random(5)
        tables = many_tables()
        for turn in range(300):
            table = tables[turn % len(tables)]
            plan, far = random_plan(chance, table.things), shortest(table)
            total = sum(amount * far(start, end) for start, end, amount in plan)
            self.assertEqual((total, total), (plan_cost(table, plan), plan_cost(plan=plan, table=table)))
            pile = tuple(chance.choice((0, 5, 30, 55, 60)) for _ in table.things)
            left = moved(table.things, pile, plan)
            wrong = [at for at, number in enumerate(left) if not 0 <= number <= 60]
            if wrong:
                expect(self, InvalidParts, {"index": wrong[0]}, after, table, pile, plan)
                expect(self, InvalidParts, {"index": wrong[0]}, after, plan=plan, pile=pile, table=table)
            else:
                self.assertEqual((left, left), (after(table, pile, plan), after(plan=plan, pile=pile, table=table)))

    def test_shortest_ways(self):
        self.assertEqual((5, 2, 0), (plan_cost(LOOSE, (("a", "b", 1),)), plan_cost(LOOSE, (("a", "c", 1),)), plan_cost(TWIN, (("b", "a", 9),))))
        self.assertEqual(5000000, plan_cost(LOOSE, (("b", "a", 1000000),)))
        self.assertEqual(0, plan_cost(LOOSE, ()))

    def test_borders_of_after(self):
        self.assertEqual((0, 60, 0, 0), after(LANE, (1, 59, 0, 0), (("a", "b", 1),)))
        expect(self, InvalidParts, {"index": 1}, after, LANE, (2, 59, 0, 0), (("a", "b", 2),))
        expect(self, InvalidParts, {"index": 0}, after, LANE, (1, 59, 0, 0), (("a", "b", 2),))
        expect(self, InvalidParts, {"index": 2}, after, LANE, (0, 60, 0, 0), (("c", "d", 1000000),))
        expect(self, InvalidParts, {"index": 0}, after, LANE, (0, 60, 0, 0), (("c", "a", 1000000),))

    def test_errors(self):
        tables, plans = given(NotATable, no_tables()), wrong_plans()
        good = (("a", "b", 1), ("c", "b", 1))
        expect_in_order(self, plan_cost, {"table": LANE, "plan": good}, {"table": tables, "plan": plans})
        expect_in_order(self, after, {"table": LANE, "pile": (1, 0, 1, 0), "plan": good}, {
            "table": tables, "pile": given(InvalidPile, no_piles_of(4)), "plan": plans,
        })
        # What is wrong in the plan comes ahead of what the things would have.
        expect(self, InvalidParts, {"index": 1}, after, LANE, (0, 0, 0, 0), (("a", "b", 1), ("a", "b", 1)))


def no_heights_of(table):
    """Values that are no heights for a table of four things with no distance above 6."""
    size = len(table)
    return odd_values() + [
        (), (0,) * (size - 1), (0,) * (size + 1), [0] * size, (1,) * size, (0, 0, 0, 9), (9, 0, 0, 0), (False,) * size,
        (0, 0, 0, True), (0, 0, 0, None), (-1, 0, 0, 0), (0, 0, 0, 10 ** 50), "0000", (0, 0, 0, "0"), (0, 0, 0, (0,)), (1, 1, 1, 2),
    ]


class TestHeights(unittest.TestCase):
    def test_are_heights(self):
        for table in (LOOSE, TWIN, SQUARE, LANE, *random_tables(71, (2, 3), 3, 4)):
            far = shortest(table)
            for value in itertools.product(range(-1, 4), repeat=len(table)):
                rows = list(zip(table.things, value))
                told = min(value) == 0 and all(high - low <= far(x, y) for x, high in rows for y, low in rows)
                self.assertEqual((told, told), (are_heights(table, value), are_heights(value=value, table=table)))

    def test_any_value(self):
        for value in no_heights_of(LANE):
            self.assertIs(False, are_heights(LANE, value))
        self.assertIs(True, are_heights(LANE, (0, 0, 0, 0)))
        expect_in_order(self, are_heights, {"table": LANE, "value": ()}, {"table": given(NotATable, no_tables())})

    def test_shortest_ways(self):
        # From a to b it is 9, but 5 by c.
        self.assertEqual((True, False), (are_heights(LOOSE, (5, 0, 3)), are_heights(LOOSE, (6, 0, 3))))

    def test_gain(self):
        chance = random.Random(9)
        for _ in range(200):
            first = [chance.randint(0, 60) for _ in "abcd"]
            second = tuple(chance.sample(first, 4))
            first, heights = tuple(first), (6, 5, 3, 0)
            told = sum(height * (one - two) for height, one, two in zip(heights, first, second))
            self.assertEqual(told, gain(LANE, heights, first, second))
            self.assertEqual(told, gain(second=second, first=first, heights=heights, table=LANE))

    def test_errors_of_gain(self):
        right = {"table": LANE, "heights": (0, 0, 0, 0), "first": (1, 0, 0, 0), "second": (0, 1, 0, 0)}
        piles = given(InvalidPile, no_piles_of(4))
        for second in ((0, 1, 0, 0), (3, 0, 0, 0)):
            right["second"] = second
            expect_in_order(self, gain, right, {
                "table": given(NotATable, no_tables()), "heights": given(InvalidHeights, no_heights_of(LANE)),
                "first": piles, "second": piles,
            })
        expect(self, Unlike, {"given": -2}, gain, LANE, (0, 0, 0, 0), (1, 0, 0, 0), (3, 0, 0, 0))
        expect(self, Unlike, {"given": 240}, gain, table=LANE, heights=(0, 0, 0, 0), first=(60,) * 4, second=(0,) * 4)
        self.assertIsNone(caught(gain, LANE, (0, 0, 0, 0), (60, 0, 0, 0), (0, 60, 0, 0)))
