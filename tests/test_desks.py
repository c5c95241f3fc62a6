"""Desks: what is kept under names, promises, logs, held against wishes that are asked of the tables one by one."""

import itertools
import random
import unittest

from nearandfar.boards import Board
from nearandfar.desks import Desk, played
from nearandfar.errors import (
    Broken, InUse, InvalidLog, InvalidName, InvalidNumber, InvalidWish, NotATable, NothingToUndo, UnknownName,
)
from nearandfar.moves import cost
from nearandfar.partings import clear, partings
from nearandfar.sheets import Sheet
from nearandfar.tables import Table
from tests.support import (
    CLOCK, FORK, KNOT, LANE, LOOSE, NAMED, SQUARE, TWIN, Likeable, Touchy, caught, closed_by_hand, expect, expect_in_order, far,
    given, is_right_by_hand, line_table, make, no_tables, odd_values, pairs, random_tables, ring_table,
)

LONG = line_table("abcdefg", (0, 1, 2, 3, 4, 5, 6))
TABLES = list(NAMED) + [LONG, make("ab", lambda x, y: 3), make("abcd", lambda x, y: 2), ring_table("abcdef", (1,) * 6)]
SHEET = "abcd\nab 1\nac 3\nad ?\nbc 2\nbd ?\ncd 3"
# For each wish the tables of which it is true, by the numbers that they have in TABLES.
NAMES = "lane fork square knot clock loose twin long two even ring".split()
TRUE = {
    ("right",): "lane fork square knot clock twin long two even ring",
    ("tree",): "lane fork clock twin long two even",
    ("sum",): "lane fork square clock twin long two even ring",
    ("line",): "lane twin long two",
    ("clock",): "clock twin two even",
    ("crowd",): "lane fork square clock twin two even ring",
    ("clear", "cd"): "lane square clock",
    ("clear", "b"): "fork clock loose two even",
    ("clear", "bcdefg"): "long",
    ("clear", "ab"): "",
    ("clear", "z"): "",
    ("most", "ab", 2): "lane square knot clock twin long even ring",
    ("most", "ab", 0): "twin",
    ("most", "de", 10 ** 80): "fork knot long ring",
    ("least", "ab", 2): "fork knot clock loose two even",
    ("least", "ab", 0): " ".join(NAMES),
    ("least", "cd", 3): "lane fork clock",
    ("least", "yz", 0): "",
    ("spread", 5): "square knot twin two even ring",
    ("spread", 0): "",
    ("needed", "ab"): "lane fork square clock long two even ring",
    ("needed", "ac"): "fork knot clock even",
    ("round", "abcd"): "lane square clock even",
    ("round", "abdc"): "lane clock even",
    ("round", "abc"): "twin",
    ("round", "ab"): "two",
    ("round", "ba"): "",
    ("round", ""): "",
    ("round", "any string"): "",
    ("trip", 8): "square knot twin two even ring",
    ("trip", 0): "",
    ("level", "ab", 2): "lane square knot clock twin long even ring",
    ("level", "ad", 1): "square knot long ring",
    ("level", "ad", 0): "",
    ("exchanges", 0): " ".join(NAMES),
    ("exchanges", 2): "square knot clock twin long two even ring",
    ("exchanges", 24): "even",
    ("exchanges", 25): "",
    ("alike", str(LANE)): "lane",
    ("alike", str(LANE.renamed("wxyz"))): "lane",
    ("alike", "xy\nxy 3"): "two",
    ("alike", "xy\nxy 4"): "",
    ("fills", SHEET): "lane",
    ("fills", "abcd\nab ?\nac ?\nad ?\nbc ?\nbd ?\ncd ?"): "lane square clock even",
    ("fills", str(SQUARE)): "square",
    ("fills", "ab\nab ?"): "two",
    ("cost", (2, 0, 0, 1), (0, 1, 1, 1), 4): "lane square even",
    ("cost", (2, 0, 0, 1), (0, 1, 1, 1), 3): "square",
    ("cost", (1, 0), (0, 1), 3): "two",
    ("cost", (1, 0), (0, 2), 3): "",
    ("cost", (61, 0), (0, 61), 10 ** 9): "",
    ("cost", (-1, 2), (1, 0), 10 ** 9): "",
    ("cost", (1, 0), (2, -1), 10 ** 9): "",
    ("cost", (), (), 3): "",
}


def wrong_wishes():
    """Values that are no wish."""
    return odd_values() + [
        "right", (), ((),), ("Right",), ("right", 1), ("right", ()), ["right"], (("right",),), ("tree", None), ("line", "a"), ("clock", 0), ("sum", 1),
        ("crowd", 6), ("star",), ("same", "a"), ("",), (b"right",), (None,), (Likeable(),), (Touchy(),), ("right", Touchy()),
        ("clear",), ("clear", ""), ("clear", "abcdefg"), ("clear", "ba"), ("clear", "aa"), ("clear", "A"), ("clear", "a "), ("clear", None),
        ("clear", ("b",)), ("clear", ["b"]), ("clear", "b", 1), ("clear", Likeable()), ("clear", Touchy()), ("clear", 1),
        ("most", "ab"), ("most", 3), ("most", "ab", -1), ("most", "ab", True), ("most", "ab", None), ("most", "ab", "3"), ("most", "ab", (3,)),
        ("most", "ba", 3), ("most", "a", 3), ("most", "abc", 3), ("most", "aa", 3), ("most", "aB", 3), ("most", ("a", "b"), 3),
        ("most", "ab", 3, 3), ("most", 3, "ab"), ("most", None, 3), ("most", "ab", Likeable()), ("most", Touchy(), 3), ("most", "ab", Touchy()),
        ("least", "ab"), ("least", "ab", -1), ("least", "ba", 0), ("least", "ab", False), ("least", "ab", 1, 2),
        ("spread",), ("spread", -1), ("spread", "5"), ("spread", True), ("spread", None), ("spread", 1, 2), ("spread", [5]), ("spread", Touchy()),
        ("needed",), ("needed", "ba"), ("needed", "a"), ("needed", "ab", 1), ("needed", 1), ("needed", None), ("needed", Likeable()),
        ("round",), ("round", None), ("round", ("a", "b")), ("round", 1), ("round", "ab", "cd"), ("round", b"ab"), ("round", Touchy()),
        ("trip",), ("trip", -1), ("trip", True), ("trip", "8"), ("trip", 8, 8), ("trip", None), ("trip", Likeable()),
        ("level", "ab"), ("level", "ab", -1), ("level", "ba", 1), ("level", "ab", False), ("level", "ab", 1, 1), ("level", 1, 1),
        ("cost", (1, 0), (0, 1)), ("cost", (1, 0), (0, 1), -1), ("cost", (1, 0), (0, 1), True), ("cost", [1, 0], (0, 1), 1),
        ("cost", (1, 0), [0, 1], 1), ("cost", "10", (0, 1), 1), ("cost", (1, 0), None, 1), ("cost", (1, 0), (0, 1), 1, 1), ("cost",),
        ("cost", Likeable(), (0, 1), 1), ("cost", (1, 0), Touchy(), 1),
        ("exchanges",), ("exchanges", -1), ("exchanges", True), ("exchanges", "1"), ("exchanges", 1, 1), ("exchanges", None),
        ("alike",), ("alike", LANE), ("alike", "ab"), ("alike", "ab\nab ?"), ("alike", "ab\nab 3 "), ("alike", None), ("alike", 3),
        ("alike", "ab\nab 3", 1), ("alike", Touchy()), ("alike", ""), ("fills",), ("fills", Sheet.told("ab\nab ?")), ("fills", "ab"),
        ("fills", "ab\nab ??"), ("fills", "ab\nab ?", 1), ("fills", None), ("fills", 3), ("fills", ("ab\nab ?",)),
    ]


def full_desk():
    desk = Desk()
    for name, table in zip(NAMES, TABLES):
        desk.put(name, table)
    return desk


def shown(desk):
    return desk.names, desk.promises, desk.changes, desk.log, len(desk), [desk.named(name) for name in desk.names]


class TestNames(unittest.TestCase):
    def test_put_and_drop(self):
        desk = Desk()
        self.assertEqual(((), (), 0, (), 0, []), shown(desk))
        self.assertIs(True, bool(desk))
        self.assertIsNone(desk.put("yard", FORK))
        self.assertIsNone(desk.put(table=LANE, name="b"))
        self.assertIsNone(desk.put("abcdefgh", KNOT))
        self.assertEqual((("abcdefgh", "b", "yard"), 3, 3), (desk.names, desk.changes, len(desk)))
        self.assertEqual((FORK, LANE), (desk.named("yard"), desk.named(name="b")))
        self.assertIsNone(desk.put("yard", TWIN))
        self.assertEqual((TWIN, 3, 4), (desk.named("yard"), len(desk), desk.changes))
        self.assertIsNone(desk.drop("b"))
        self.assertIsNone(desk.drop(name="yard"))
        self.assertEqual((("abcdefgh",), 6, 1), (desk.names, desk.changes, len(desk)))
        for table in (TWIN, TWIN, FORK):
            self.assertIsNone(desk.undo())
            self.assertEqual(table, desk.named("yard"))
        self.assertEqual(("abcdefgh", "b", "yard"), desk.names)
        for _ in range(3):
            desk.undo()
        self.assertEqual(((), (), 0, (), 0, []), shown(desk))
        expect(self, NothingToUndo, {}, desk.undo)
        self.assertIs(True, bool(desk))

    def test_errors(self):
        desk = Desk()
        desk.put("yard", FORK)
        before = shown(desk)
        names = odd_values() + ["", "abcdefghi", "Yard", "yard ", " yard", "ya rd", "yard1", "yard\n", ("yard",), ["yard"], b"yard"]
        names = [name for name in names if not (isinstance(name, str) and name in ("ba", "aa", "aab"))]
        expect_in_order(self, desk.put, {"name": "yard", "table": LANE}, {
            "name": given(InvalidName, names), "table": given(NotATable, no_tables()),
        })
        unknown = names + ["a", "yar", "yards", "same", "abcdefghi"]
        for call in (desk.named, desk.drop):
            expect_in_order(self, call, {"name": "yard"}, {"name": given(UnknownName, unknown)})
        self.assertEqual(before, shown(desk))

    def test_equal_to_itself_alone(self):
        desk = Desk()
        self.assertIs(True, desk == desk)
        self.assertIs(False, desk != desk)
        for other in odd_values() + [Desk(), played(()), (), Board(LANE), Likeable(), Touchy(), desk.trial()]:
            self.assertIs(False, desk == other)
            self.assertIs(True, desk != other)


class TestWishes(unittest.TestCase):
    def test_each_wish(self):
        # No piles of any table: as keys these would be the same as others, or none.
        piles = ((([1],), (None, "a")), ((Touchy(), 1), (1, {})), ((1, 0), (0, True)), ((1, 0), (Likeable(), 1)))
        for wish, names in list(TRUE.items()) + [(("cost", first, second, 3), "") for first, second in piles]:
            desk = full_desk()
            before = shown(desk)
            for name, table in zip(NAMES, TABLES):
                if name in names.split():
                    self.assertIsNone(desk.promise((name, wish)), (name, wish))
                    self.assertEqual((((name, wish),), before[2] + 1), (desk.promises, desk.changes))
                    self.assertEqual(("promise", (name, wish)), desk.log[-1])
                    desk.undo()
                else:
                    expect(self, Broken, {"index": 0}, desk.promise, (name, wish))
                self.assertEqual(before, shown(desk), (name, wish))

    def test_numbers_of_wishes(self):
        # The number with which a wish is true first, for many tables.
        for table in random_tables(171, (2, 3, 5), 9, 4) + [closed_by_hand(one) for one in random_tables(172, (4, 6), 9, 3)]:
            desk = Desk()
            desk.put("a", table)
            lengths = [sum(far(table, x, y) for x, y in zip(row, row[1:] + row[:1])) for row in itertools.permutations(table.things)]
            first, second = (3,) + (0,) * (len(table) - 1), (0,) * (len(table) - 1) + (3,)
            exact = [
                (("spread",), max(distance for _, distance in table.distances), -1), (("trip",), min(lengths), -1),
                (("cost", first, second), cost(table, first, second), -1),
            ]
            for pair in pairs(table.things):
                exact += [(("most", pair), far(table, *pair), -1), (("least", pair), far(table, *pair), 1)]
            for wish, number, step in exact:
                self.assertIsNone(desk.promise(("a", wish + (number,))))
                if number + step >= 0:
                    expect(self, Broken, {"index": desk.changes - 1}, desk.promise, ("a", wish + (number + step,)))

    def test_clear_partings(self):
        for table in random_tables(173, (2, 3, 4), 3, 6) + [make("abc", lambda x, y: 1), SQUARE, KNOT]:
            desk = Desk()
            desk.put("a", table)
            lots = dict(clear(table))
            for lot in partings(table):
                if lot in lots:
                    self.assertIsNone(desk.promise(("a", ("clear", lot))))
                else:
                    expect(self, Broken, {"index": len(desk.promises)}, desk.promise, ("a", ("clear", lot)))
        self.assertIn(1, dict(clear(make("abc", lambda x, y: 1))).values())

    def test_wrong_wishes(self):
        desk = full_desk()
        before = shown(desk)
        wishes = wrong_wishes()
        promises = odd_values() + [("lane", wish) for wish in wishes] + [("none", wish) for wish in wishes] + [
            ("lane",), ("lane", ("right",), 1), ["lane", ("right",)], (("lane", ("right",)),), ("right",), ("same",), ("same", "lane"),
            ("same", "lane", "fork", "fork"), ("like", "lane", "fork"), ("same", "lane", ["fork"]), ("same", {"lane": 1}, "fork"),
            (["lane"], ("right",)), ({}, ("right",)), ("same", [], {}), (Likeable(), "lane", "fork"), (Touchy(), "lane", "fork"),
            ("lane", ["right"]), ("lane", "right"), (None, None), ((), ()), "lane right", {"lane": ("right",)},
        ]
        expect_in_order(self, desk.promise, {"wish": ("lane", ("right",))}, {"wish": given(InvalidWish, promises)})
        self.assertEqual(before, shown(desk))

    def test_unknown_names(self):
        desk = full_desk()
        before = shown(desk)
        names = [value for value in odd_values() if not isinstance(value, (list, dict))] + ["none", "Lane", "lane ", ("lane",), ([],), b"lane"]
        for name in names:
            for wish in (("right",), ("tree",), ("clear", "z")):
                expect(self, UnknownName, {"given": name}, desk.promise, (name, wish))
            for wish in (("same", name, "lane"), ("same", "lane", name), ("same", name, ("z",)), ("same", name, name)):
                expect(self, UnknownName, {"given": name}, desk.promise, wish)
        self.assertEqual(before, shown(desk))

    def test_same(self):
        desk = full_desk()
        desk.put("lanetwo", LANE.renamed("zyxw"))
        desk.put("same", LANE)
        self.assertIsNone(desk.promise(wish=("same", "lane", "lanetwo")))
        self.assertIsNone(desk.promise(("same", "lane", "lane")))
        self.assertIsNone(desk.promise(("same", ("line",))))
        self.assertIsNone(desk.promise(("same", "same", "lane")))
        expect(self, Broken, {"index": 4}, desk.promise, ("same", "lane", "fork"))
        expect(self, Broken, {"index": 0}, desk.put, "lanetwo", FORK)
        expect(self, Broken, {"index": 0}, desk.put, "lane", FORK)
        expect(self, Broken, {"index": 2}, desk.put, "same", FORK)
        expect(self, InUse, {"index": 0}, desk.drop, "lanetwo")
        expect(self, InUse, {"index": 2}, desk.drop, "same")
        self.assertEqual(4, len(desk.promises))


class TestPromises(unittest.TestCase):
    def test_put_and_drop(self):
        desk = Desk()
        desk.put("yard", FORK)
        desk.put("lane", LANE)
        desk.promise(("lane", ("line",)))
        desk.promise(("yard", ("tree",)))
        desk.promise(("yard", ("most", "ae", 7)))
        before = shown(desk)
        expect(self, Broken, {"index": 1}, desk.put, "yard", SQUARE)
        expect(self, Broken, {"index": 2}, desk.put, "yard", FORK.changed("ae", 8).changed("be", 9).changed("ce", 8).changed("de", 5))
        expect(self, Broken, {"index": 0}, desk.put, "lane", SQUARE)
        expect(self, InUse, {"index": 1}, desk.drop, "yard")
        expect(self, InUse, {"index": 0}, desk.drop, "lane")
        expect(self, InvalidName, {"given": "Yard"}, desk.put, "Yard", SQUARE)
        expect(self, NotATable, {"given": None}, desk.put, "yard", None)
        self.assertEqual(before, shown(desk))
        desk.put("other", SQUARE)
        desk.drop("other")
        desk.put("yard", FORK)
        self.assertEqual(before[2] + 3, desk.changes)

    def test_lift(self):
        desk = Desk()
        desk.put("yard", LANE)
        for wish in (("tree",), ("line",), ("right",)):
            desk.promise(("yard", wish))
        wrong = [value for value in odd_values()] + [3, -1, 10 ** 30, "0", (0,), True]
        expect_in_order(self, desk.lift, {"index": 0}, {"index": given(InvalidNumber, wrong)})
        expect(self, Broken, {"index": 0}, desk.put, "yard", KNOT)
        self.assertIsNone(desk.lift(index=1))
        self.assertEqual((("yard", ("tree",)), ("yard", ("right",))), desk.promises)
        self.assertIsNone(desk.lift(0))
        self.assertIsNone(desk.put("yard", KNOT))
        expect(self, Broken, {"index": 0}, desk.put, "yard", LOOSE)
        desk.lift(0)
        expect(self, InvalidNumber, {"given": 0}, desk.lift, 0)
        desk.drop("yard")
        self.assertEqual(("lift", 0), desk.log[-2])
        for _ in range(2):
            desk.undo()
        self.assertEqual((("yard", ("right",)),), desk.promises)
        desk.undo()
        desk.undo()
        self.assertEqual((("yard", ("tree",)), ("yard", ("right",))), desk.promises)

    def test_the_same_promise_twice(self):
        desk = Desk()
        desk.put("a", LANE)
        for index in range(3):
            desk.promise(("a", ("line",)))
            self.assertEqual(index + 1, len(desk.promises))
        desk.lift(1)
        self.assertEqual((("a", ("line",)),) * 2, desk.promises)


def drawn_change(chance, desk):
    """A change with arguments, right ones more often than wrong ones."""
    names = list(desk.names) + [chance.choice("abc")] + ["A"] * (chance.random() < 0.1)
    kind = chance.choice(("put", "put", "drop", "promise", "promise", "lift", "undo"))
    if kind == "put":
        return kind, (chance.choice(names), chance.choice(TABLES + [None] * (chance.random() < 0.1)))
    if kind == "drop":
        return kind, (chance.choice(names),)
    if kind == "promise":
        if chance.random() < 0.2:
            return kind, (("same", chance.choice(names), chance.choice(names)),)
        wish = chance.choice(list(TRUE)) if chance.random() < 0.9 else chance.choice(wrong_wishes()[60:])
        return kind, ((chance.choice(names), wish),)
    return kind, () if kind == "undo" else (chance.randint(-1, len(desk.promises)),)


class TestLogs(unittest.TestCase):
    def test_drawn_changes(self):
        chance = random.Random(173)
        for _ in range(25):
            desk, states = Desk(), []
            for _ in range(40):
                kind, told = drawn_change(chance, desk)
                before = shown(desk)
                if caught(getattr(desk, kind), *told) is not None:
                    self.assertEqual(before, shown(desk))
                    continue
                if kind == "undo":
                    self.assertEqual(states.pop(), shown(desk))
                    continue
                states.append(before)
                entry = ("put", told[0], str(told[1])) if kind == "put" else (kind, told[0])
                self.assertEqual(before[3] + (entry,), desk.log)
                self.assertEqual(before[2] + 1, desk.changes)
                self.hold(desk)
            again = played(desk.log)
            self.assertEqual(shown(desk), shown(again))
            self.assertEqual(shown(desk), shown(played(log=desk.log)))
            for size in range(len(desk.log)):
                self.assertEqual(states[size], shown(played(desk.log[:size])))
            while again.changes:
                again.undo()
                self.assertEqual(states[again.changes], shown(again))

    def hold(self, desk):
        """All promises are true of the tables: each of them is told to be so by TRUE."""
        for promise in desk.promises:
            if len(promise) == 3:
                one, two = desk.named(promise[1]), desk.named(promise[2])
                self.assertEqual(sorted(dict(one.distances).values()), sorted(dict(two.distances).values()))
            else:
                name = NAMES[TABLES.index(desk.named(promise[0]))]
                self.assertIn(name, TRUE[promise[1]].split())

    def test_wrong_logs(self):
        right = (
            ("put", "a", str(LANE)), ("put", "b", str(FORK)), ("promise", ("a", ("line",))), ("promise", ("b", ("tree",))), ("lift", 0),
            ("drop", "a"), ("put", "b", str(CLOCK)), ("promise", ("same", "b", "b")),
        )
        self.assertEqual(right, played(right).log)
        wrong = odd_values() + [
            ("put",), ("put", "a"), ("put", "a", LANE), ("put", "a", "ab"), ("put", "a", str(LANE), 1), ("put", "A", str(LANE)), ("put", "", str(LANE)),
            ("put", None, str(LANE)), ("put", "a", None), ["put", "a", str(LANE)], ("Put", "a", str(LANE)), ("put", "a", str(LANE) + "\n"),
            ("put", "a", SHEET), ("put", ["a"], str(LANE)), ("drop",), ("drop", "z"), ("drop", "a", "b"), ("drop", None), ("drop", ["a"]),
            ("promise",), ("promise", None), ("promise", ("a", ("line",)), 1), ("promise", ("z", ("line",))), ("promise", ("b", ("crowds",))),
            ("promise", "a", ("line",)), ("promise", ["a", ("line",)]), ("promise", ("b", ("line",))), ("lift",), ("lift", -1), ("lift", 9),
            ("lift", True), ("lift", None), ("lift", 0, 0), ("undo",), ("named", "a"), ("", "a"), (), ((), "a"), (Likeable(), "a"), (Touchy(), "a"),
            ("put", Touchy(), str(LANE)), ("put", "a", Touchy()), ("lift", Touchy()), ("drop", Likeable()), ("promise", Touchy()), (None, "a"),
        ]
        for element in wrong:
            for index in range(2, len(right) + 1):
                log = right[:index] + (element,) + right[index:]
                expect(self, InvalidLog, {"index": index}, played, log)
                expect(self, InvalidLog, {"index": index}, played, log=log[:index + 1] + (element,))
        whole = [value for value in odd_values() if not isinstance(value, tuple)] + [list(right), right[0][2], {0: right[0]}]
        expect_in_order(self, played, {"log": ()}, {"log": [(value, InvalidLog, {"index": None}) for value in whole]})
        self.assertEqual(shown(Desk()), shown(played(())))

    def test_changes_that_raise_errors(self):
        put, promise = ("put", "a", str(LANE)), ("promise", ("a", ("line",)))
        for log, index in (
            ((promise, put), 0), ((put, promise, ("put", "a", str(FORK))), 2), ((put, promise, ("drop", "a")), 2), ((("drop", "a"),), 0),
            ((put, promise, ("lift", 1)), 2), ((put, promise, ("lift", 0), ("drop", "a"), ("drop", "a")), 4), (put, 0), ((put, put[:2]), 1),
            ((("lift", 0),), 0), ((put, ("promise", ("a", ("tree",))), ("put", "a", str(SQUARE)), ("drop", "z")), 2),
        ):
            expect(self, InvalidLog, {"index": index}, played, log)

    def test_text_of_a_log(self):
        desk = Desk()
        table = Table.told("ab\nab 3")
        desk.put("x", table)
        self.assertEqual((("put", "x", "ab\nab 3"),), desk.log)


class Stop(Exception):
    pass


class TestTrials(unittest.TestCase):
    def test_trials(self):
        desk = Desk()
        desk.put("a", LANE)
        desk.promise(("a", ("line",)))
        before = shown(desk)
        trial = desk.trial()
        self.assertEqual(before, shown(desk))
        with self.assertRaises(Stop) as held:
            with trial as same:
                self.assertIs(desk, same)
                desk.lift(0)
                desk.drop("a")
                desk.put("b", FORK)
                for _ in range(5):
                    desk.undo()
                desk.put("c", KNOT)
                raise Stop("why")
        self.assertEqual((("why",), before), (held.exception.args, shown(desk)))
        with desk.trial():
            desk.put("b", FORK)
            with self.assertRaises(Broken):
                with desk.trial():
                    desk.put("c", FORK)
                    desk.put("a", FORK)
            self.assertEqual(("a", "b"), desk.names)
            with desk.trial():
                desk.undo()
                desk.put("d", FORK)
        self.assertEqual((("a", "d"), 3), (desk.names, desk.changes))
        desk.undo()
        self.assertEqual(before, shown(desk))

    def test_tried(self):
        desk = Desk()
        answer = object()
        self.assertIs(answer, desk.tried(lambda one: (one.put("a", TWIN), answer)[1]))
        self.assertIs(desk, desk.tried(action=lambda one: one))
        self.assertEqual(("a",), desk.names)

        def fail(one):
            one.drop("a")
            one.put("b", LOOSE)
            raise Stop()

        self.assertRaises(Stop, desk.tried, fail)
        self.assertRaises(UnknownName, desk.tried, lambda one: (one.put("b", TWIN), one.drop("z")))
        self.assertEqual((("a",), 1), (desk.names, desk.changes))

    def test_drawn_trials(self):
        chance = random.Random(175)
        for _ in range(40):
            desk = Desk()
            for _ in range(5):
                before, fails = shown(desk), chance.random() < 0.5
                told = caught(self.within, chance, desk, fails)
                self.assertIs(Stop if fails else None.__class__, told.__class__)
                if fails:
                    self.assertEqual(before, shown(desk))
                self.assertEqual(shown(desk), shown(played(desk.log)))

    def within(self, chance, desk, fails):
        with desk.trial():
            for _ in range(8):
                kind, told = drawn_change(chance, desk)
                caught(getattr(desk, kind), *told)
            if fails:
                raise Stop()

    def test_right_tables(self):
        # The table of names above tells the same as going through all threes.
        self.assertEqual([name for name, table in zip(NAMES, TABLES) if is_right_by_hand(table)], TRUE[("right",)].split())
