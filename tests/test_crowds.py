"""Crowds and bars, held against each other, and against what is known of three and four things."""

import itertools
import math
import random
import unittest
from fractions import Fraction

from nearandfar.crowds import (
    bar, crowd, crowd_table, is_bar, is_crowd, least_raise, lone_crowd, raise_bar, sure_partings, weights,
)
from nearandfar.errors import InvalidParting, InvalidParts, InvalidThings, NotATable, TooFar, TooMany
from nearandfar.tables import Table
from nearandfar.trees import pieces
from tests.drawn import drawn_trees
from tests.support import (
    CLOCK, FORK, KNOT, LANE, LOOSE, SQUARE, TWIN, closed_by_hand, expect, expect_in_order, given, is_right_by_hand, line_table,
    make, many_tables, no_partings_of, no_tables, odd_values, pairs, random_tables, ring_table, subsets, wrong_parts,
)

TABLES = [table for table in many_tables() if len(table) <= 6] + random_tables(61, (3, 4), 6, 8)
TABLES += [closed_by_hand(table) for table in random_tables(62, (4, 5, 6), 12, 10) + random_tables(63, (5, 6), 3, 10)]
EVEN = make("abcd", lambda x, y: 2)
SEVEN = [make("abcdefg", lambda x, y: 2), line_table("abcdefg", (0, 3, 1, 4, 1, 5, 9)), make("abcdefg", lambda x, y: 9 if x + y == "ab" else 1)]


def lots_by_hand(things):
    return sorted(lot for lot in subsets(things) if things[0] not in lot)


def parted(parting, pair):
    return len(set(pair) & set(parting)) == 1


def keeps_crowd(table, marks):
    """Whether marks, as the document tells them, make the table."""
    names = [name for name, _ in marks]
    if names != sorted(set(names)) or not set(names) <= set(lots_by_hand(table.things)):
        return False
    for _, (top, bottom) in marks:
        if not (top > 0 and bottom > 0 and math.gcd(top, bottom) == 1):
            return False
    return all(
        far == sum(Fraction(*weight) for name, weight in marks if parted(name, pair)) for pair, far in table.distances
    )


def keeps_bar(table, numbers):
    if len(numbers) != len(table.distances):
        return False
    rows = list(zip(pairs(table.things), numbers))
    sums = [sum(number for pair, number in rows if parted(lot, pair)) for lot in lots_by_hand(table.things)]
    return max(sums) <= 0 and sum(number * far for number, (_, far) in zip(numbers, table.distances)) > 0


def random_crowd(seed, size, many):
    chance = random.Random(seed)
    things = "".join(sorted(chance.sample("abcdefghijklmnopqrstuvwxyz", size)))
    lots = lots_by_hand(things)
    kept = sorted(chance.sample(lots, min(many, len(lots))))
    return things, tuple((lot, chance.randint(1, 9)) for lot in kept)


CROWDED = [crowd_table(*random_crowd(seed, 2 + seed % 5, 1 + seed % 9)) for seed in range(40)]


def weights_by_hand(table):
    """The least and the greatest weights of all partings of up to four things that are right."""
    things, far = table.things, {frozenset(pair): length for pair, length in table.distances}
    if len(things) == 2:
        return {things[1]: (Fraction(table.far(*things)),) * 2}
    splits = {}
    if len(things) == 4:
        sums = {}
        for mate in things[1:]:
            others = "".join(thing for thing in things[1:] if thing != mate)
            sums[others] = far[frozenset((things[0], mate))] + far[frozenset(others)]
        # With the split of the greatest sum at 0, the others are half of what their sums lack.
        splits = {others: Fraction(max(sums.values()) - total, 2) for others, total in sums.items()}
    singles = {}
    for thing in things:
        y, z = [other for other in things if other != thing][:2]
        number = Fraction(far[frozenset((thing, y))] + far[frozenset((thing, z))] - far[frozenset((y, z))], 2)
        number -= sum(weight for lot, weight in splits.items() if (thing in lot) is not (y in lot) and (y in lot) is (z in lot))
        lot = "".join(other for other in things if other != thing) if thing == things[0] else thing
        singles[lot] = number
    # All weights of single things can be made greater by one number, and those of the splits less by it.
    down = min(singles.values()) if splits else 0
    up = min(splits.values()) if splits else 0
    found = {lot: (number - down, number + up) for lot, number in singles.items()}
    found.update({lot: (number - up, number + down) for lot, number in splits.items()})
    return found


def fraction(value):
    """The pair of a fraction in lowest terms."""
    return Fraction(value).numerator, Fraction(value).denominator


class TestCrowdOrBar(unittest.TestCase):
    def test_just_one_of_both(self):
        seen = set()
        for table in TABLES + CROWDED:
            marks, numbers = crowd(table), bar(table)
            self.assertEqual((marks, numbers), (crowd(table=table), bar(table=table)))
            self.assertIs(marks is None, numbers is not None)
            seen.add((len(table), marks is None))
            if marks is not None:
                self.assertTrue(keeps_crowd(table, marks), marks)
                self.assertEqual((True, True), (is_crowd(table, marks), is_crowd(value=marks, table=table)))
            else:
                self.assertTrue(keeps_bar(table, numbers), numbers)
                self.assertEqual(1, math.gcd(*numbers))
                self.assertEqual((True, True), (is_bar(table, numbers), is_bar(value=numbers, table=table)))
        self.assertLessEqual({(size, none) for size in (3, 4, 5, 6) for none in (True, False)}, seen)

    def test_up_to_four_things(self):
        for table in TABLES + CROWDED:
            if len(table) <= 4:
                self.assertIs(is_right_by_hand(table), crowd(table) is not None)

    def test_known_kinds(self):
        for table in CROWDED + [LANE, FORK, SQUARE, CLOCK, TWIN, EVEN, ring_table("abcdef", (1, 2, 3, 4, 5, 6))]:
            self.assertIsNotNone(crowd(table))
            self.assertIsNone(bar(table))
        for tree in drawn_trees()[:20]:
            if len(tree.things) <= 6:
                self.assertIsNotNone(crowd(tree.table()))
        for table in (KNOT, LOOSE, TWIN.changed("ac", 5), FORK.changed("ab", 30)):
            self.assertIsNone(crowd(table))
        self.assertEqual((), crowd(make("abcdef", lambda x, y: 0)))

    def test_the_only_crowds(self):
        self.assertEqual((("bcd", (1, 1)), ("cd", (2, 1)), ("d", (3, 1))), crowd(LANE))
        self.assertEqual((("b", (7, 1)),), crowd(make("ab", lambda x, y: 7)))
        self.assertEqual((("b", (1, 2)), ("bc", (1, 2)), ("c", (1, 2))), crowd(make("abc", lambda x, y: 1)))

    def test_errors(self):
        for call in (crowd, bar, sure_partings, lone_crowd, least_raise, raise_bar):
            expect_in_order(self, call, {"table": SQUARE}, {"table": given(NotATable, no_tables())})
            for table in SEVEN:
                expect(self, TooMany, {"given": 7}, call, table)
                expect(self, TooMany, {"given": 7}, call, table=table)
        for call in (is_crowd, is_bar):
            expect_in_order(self, call, {"table": SQUARE, "value": ()}, {"table": given(NotATable, no_tables())})
            for table in SEVEN:
                for value in odd_values() + [(), (1,) * 21]:
                    expect(self, TooMany, {"given": 7}, call, table, value)


class TestAnyValue(unittest.TestCase):
    def test_no_crowds(self):
        good = (("b", (1, 1)), ("bcd", (1, 1)), ("c", (1, 1)), ("d", (1, 1)))
        self.assertIs(True, is_crowd(EVEN, good))
        for value in odd_values() + [(), list(good), good[:-1], good[::-1], good + good[-1:], good + (("cd", (0, 1)),), good + (("cd", (1, 1)),)]:
            self.assertIs(False, is_crowd(EVEN, value))
        rows = odd_values() + [
            ["b", (1, 1)], ("b", [1, 1]), ("b", (2, 2)), ("b", (-1, -1)), ("b", (1, True)), ("b", (True, 1)), ("b", 1), ("b", (1,)),
            ("b", (1, 1, 1)), ("b", (1, 1), 1), ("b",), ("b", None), ("b", (1, 0)), ("a", (1, 1)), ("b~", (1, 1)), (("b",), (1, 1)),
            ("b", (1, 2)), ("b", ("1", "1")), ("", (1, 1)), ("b", (None, 1)), ("b", ((1, 1), 1)), ("b", Fraction(1)),
        ]
        for row in rows:
            for at in range(4):
                self.assertIs(False, is_crowd(EVEN, good[:at] + (row,) + good[at + 1:]))
        # One parting stands twice, with the halves of its weight; or not in its place.
        self.assertIs(False, is_crowd(EVEN, (("b", (1, 2)), ("b", (1, 2))) + good[1:]))
        self.assertIs(False, is_crowd(EVEN, (good[1], good[0]) + good[2:]))
        self.assertIs(True, is_crowd(make("ab", lambda x, y: 0), ()))
        self.assertIs(False, is_crowd(make("ab", lambda x, y: 0), (("b", (0, 1)),)))

    def test_other_crowds(self):
        third, rest = (1, 3), (2, 3)
        value = (("b", third), ("bc", rest), ("bcd", third), ("bd", rest), ("c", third), ("cd", rest), ("d", third))
        self.assertEqual((True, True), (keeps_crowd(EVEN, value), is_crowd(EVEN, value)))
        wide = (("b", (10 ** 60 - 1, 10 ** 60)), ("bc", (1, 10 ** 60)), ("bcd", (10 ** 60 - 1, 10 ** 60)), ("bd", (1, 10 ** 60)))
        wide += (("c", (10 ** 60 - 1, 10 ** 60)), ("cd", (1, 10 ** 60)), ("d", (10 ** 60 - 1, 10 ** 60)))
        self.assertIs(True, is_crowd(EVEN, wide))
        self.assertIs(False, is_crowd(EVEN, wide[:-1] + (("d", (10 ** 60 + 1, 10 ** 60)),)))

    def test_changed_crowds(self):
        for table in CROWDED:
            marks = crowd(table)
            for at, (lot, (top, bottom)) in enumerate(marks):
                for more in (Fraction(1), Fraction(-1, 3), Fraction(1, 10 ** 9)):
                    weight = fraction(Fraction(top, bottom) + more)
                    changed = marks[:at] + ((lot, weight),) + marks[at + 1:]
                    self.assertEqual((False, False), (keeps_crowd(table, changed), is_crowd(table, changed)))

    def test_no_bars(self):
        good = (1, -1, -1, -1, -1, -1, -1, 1, 1, 1)
        self.assertIs(True, is_bar(KNOT, good))
        self.assertIs(True, is_bar(KNOT, tuple(6 * number for number in good)))
        self.assertIs(True, is_bar(KNOT, tuple(10 ** 90 * number for number in good)))
        wrong = odd_values() + [(), list(good), good[:-1], good + (0,), tuple(-number for number in good), (0,) * 10, (1,) * 10]
        for value in wrong + [(True,) + good[1:], good[:-1] + (None,), ("1",) + good[1:], good[:3] + ((1,),) + good[4:]]:
            self.assertIs(False, is_bar(KNOT, value))
        for at, more in itertools.product(range(10), (-1, 1)):
            changed = good[:at] + (good[at] + more,) + good[at + 1:]
            self.assertIs(keeps_bar(KNOT, changed), is_bar(KNOT, changed))
        chance = random.Random(7)
        found = set()
        for _ in range(600):
            numbers = tuple(chance.randint(-2, 1) for _ in range(3))
            found.add(is_bar(LOOSE, numbers))
            self.assertIs(keeps_bar(LOOSE, numbers), is_bar(LOOSE, numbers))
            self.assertIs(False, is_bar(TWIN, numbers))
        self.assertEqual({True, False}, found)


class TestWeights(unittest.TestCase):
    def test_up_to_four_things(self):
        shown = 0
        for table in TABLES + CROWDED:
            if len(table) > 4 or not is_right_by_hand(table):
                continue
            shown += 1
            found = weights_by_hand(table)
            self.assertEqual(set(lots_by_hand(table.things)), set(found))
            for lot, (least, greatest) in found.items():
                told = (fraction(least), fraction(greatest))
                self.assertEqual((told, told), (weights(table, lot), weights(parting=lot, table=table)))
            told = tuple(sorted(lot for lot, (least, _) in found.items() if least > 0))
            self.assertEqual((told, told), (sure_partings(table), sure_partings(table=table)))
            lone = all(least == greatest for least, greatest in found.values())
            self.assertEqual((lone, lone), (lone_crowd(table), lone_crowd(table=table)))
        self.assertGreater(shown, 30)

    def test_five_and_six_things(self):
        lone = set()
        for table in CROWDED[3::5] + CROWDED[4::5] + [FORK, make("abcdef", lambda x, y: 2), make("abcde", lambda x, y: 3)]:
            found = {lot: weights(table, lot) for lot in lots_by_hand(table.things)}
            marks = dict(crowd(table))
            for lot, (least, greatest) in found.items():
                self.assertLessEqual(Fraction(*least), Fraction(*marks.get(lot, (0, 1))))
                self.assertLessEqual(Fraction(*marks.get(lot, (0, 1))), Fraction(*greatest))
            self.assertEqual(tuple(lot for lot in found if found[lot][0] != (0, 1)), sure_partings(table))
            lone.add(lone_crowd(table))
            self.assertIs(all(least == greatest for least, greatest in found.values()), lone_crowd(table))
        self.assertEqual({True, False}, lone)

    def test_the_bounds_are_reached_and_not_passed(self):
        # Without so much of a parting as its weight can be the rest has a crowd, with a little more it has none.
        for table in CROWDED[2:20:3] + [make("abcde", lambda x, y: 2)]:
            for lot in lots_by_hand(table.things)[::4]:
                (low, low_part), (top, part) = weights(table, lot)
                self.assertIsNotNone(crowd(less(table, lot, top, part)))
                self.assertIsNone(crowd(less(table, lot, top + 1, part)))
                self.assertIsNotNone(crowd(less(table, lot, low, low_part)))

    def test_the_ties_of_a_tree_are_one_crowd(self):
        for tree in drawn_trees()[:24]:
            if len(tree.things) <= 6:
                table = tree.table()
                halved = tuple((lot, fraction(Fraction(number, 2))) for lot, number in pieces(table))
                self.assertEqual((True, True), (keeps_crowd(table, halved), is_crowd(table, halved)))
                for lot, weight in halved:
                    least, greatest = weights(table, lot)
                    self.assertTrue(Fraction(*least) <= Fraction(*weight) <= Fraction(*greatest))

    def test_even_tables(self):
        # Of four equal distances and more each single thing can be left out.
        for size, greatest in ((4, (1, 1)), (5, (1, 1)), (6, (1, 1))):
            table = make("abcdef"[:size], lambda x, y: 2)
            self.assertEqual(((0, 1), greatest), weights(table, "b"))
            self.assertEqual((), sure_partings(table))
            self.assertIs(False, lone_crowd(table))

    def test_no_crowd(self):
        for table in (KNOT, LOOSE, TWIN.changed("ac", 5)):
            for lot in lots_by_hand(table.things):
                self.assertIsNone(weights(table, lot))
            self.assertIsNone(sure_partings(table))
            self.assertIs(False, lone_crowd(table))

    def test_errors(self):
        for table in (SQUARE, LANE.changed("ad", 20)):
            expect_in_order(self, weights, {"table": table, "parting": "bd"}, {
                "table": given(NotATable, no_tables()), "parting": given(InvalidParting, no_partings_of("abcd")),
            })
        for table in SEVEN:
            expect_in_order(self, weights, {"table": table, "parting": "b"}, {"parting": given(InvalidParting, no_partings_of("abcdefg"))})
            expect(self, TooMany, {"given": 7}, weights, table, "b")


def less(table, lot, top, part):
    """The table, times part, without a weight of top on a parting; below 0 it is far from right."""
    far = {pair: part * length - (top if parted(lot, pair) else 0) for pair, length in table.distances}
    if min(far.values()) < 0:
        return LOOSE
    return Table(table.things, tuple(far.items()))


class TestRaise(unittest.TestCase):
    def test_least_raise(self):
        for table in TABLES + CROWDED:
            found = least_raise(table)
            self.assertEqual(found, least_raise(table=table))
            top, bottom = found
            self.assertEqual(((int, int), 1), ((top.__class__, bottom.__class__), math.gcd(top, bottom)))
            numbers = raise_bar(table)
            self.assertEqual(numbers, raise_bar(table=table))
            self.assertEqual((crowd(table) is None, crowd(table) is None), (top > 0, numbers is not None))
            if numbers is None:
                self.assertEqual((0, 1), found)
                continue
            self.assertTrue(keeps_bar(table, numbers))
            self.assertEqual((1, tuple), (math.gcd(*numbers), numbers.__class__))
            self.assertLess(sum(numbers), 0)
            second = sum(number * far for number, (_, far) in zip(numbers, table.distances))
            self.assertEqual(Fraction(top, bottom), Fraction(second, -sum(numbers)))

    def test_raised_tables(self):
        shown = 0
        for table in TABLES:
            top, bottom = least_raise(table)
            factor = 1 if bottom > 1 else 3
            lengths = [(pair, factor * bottom * far + factor * top) for pair, far in table.distances]
            if max(length for _, length in lengths) > 1000000:
                continue
            raised = Table(table.things, tuple(lengths))
            self.assertTrue(keeps_crowd(raised, crowd(raised)))
            if top > 0:
                shown += 1
                lower = Table(table.things, tuple((pair, length - 1) for pair, length in lengths))
                self.assertIsNone(crowd(lower))
        self.assertGreater(shown, 20)

    def test_known_raises(self):
        self.assertEqual([(1, 1), (4, 1), (0, 1), (0, 1)], [least_raise(table) for table in (KNOT, LOOSE, LANE, EVEN)])
        for far in (0, 1, 3, 10, 1000000):
            table = Table("abc", (("ab", far), ("ac", 1), ("bc", 1)))
            self.assertEqual((max(0, far - 2), 1), least_raise(table))


class TestCrowdTable(unittest.TestCase):
    def test_tables(self):
        for seed in range(60):
            things, marks = random_crowd(seed, 2 + seed % 6, 1 + seed % 12)
            table = crowd_table(things, marks)
            self.assertEqual(table, crowd_table(marks=marks, things=things))
            told = tuple((pair, sum(number for lot, number in marks if parted(lot, pair))) for pair in pairs(things))
            self.assertEqual((things, told), (table.things, table.distances))
            if len(things) <= 6:
                self.assertIs(True, is_crowd(table, tuple((lot, (number, 1)) for lot, number in marks)))
        self.assertEqual(make("abc", lambda x, y: 0), crowd_table("abc", ()))

    def test_too_far(self):
        self.assertEqual((("ab", 1000000),), crowd_table("ab", (("b", 1000000),)).distances)
        for marks, pair in (
            ((("b", 1000000), ("bc", 1)), "ab"), ((("b", 1000000), ("c", 1)), "bc"), ((("bc", 600000), ("c", 400001)), "ac"),
            ((("b", 1000000), ("bc", 1000000), ("c", 1000000)), "ab"),
        ):
            expect(self, TooFar, {"given": pair}, crowd_table, "abc", marks)
            expect(self, TooFar, {"given": pair}, crowd_table, marks=marks, things="abc")

    def test_errors(self):
        good = (("b", 2), ("cd", 4))
        expect_in_order(self, crowd_table, {"things": "abcde", "marks": good}, {
            "things": given(InvalidThings, odd_values() + ["abcdefgh", "a", "abA", ("a", "b"), SQUARE]),
            "marks": wrong_parts(good, 1000000),
        })
        expect(self, InvalidParts, {"index": 2}, crowd_table, "abcd", (("bc", 1), ("bd", 1), ("b", 1)))
        expect(self, InvalidParts, {"index": 1}, crowd_table, "abcd", (("bc", 1000000), ("bc", 1000000)))
        self.assertEqual(3, crowd_table("abcd", (("bc", 1), ("bd", 2), ("cd", 1))).far("a", "b"))
