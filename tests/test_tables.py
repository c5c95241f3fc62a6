"""Table, times and added."""

import unittest

from nearandfar import limits
from nearandfar.errors import (
    InvalidDistances, InvalidNumber, InvalidPair, InvalidRow, InvalidText, InvalidThing, InvalidThings, NotATable, TooFew,
    TooMany, UnknownThing,
)
from nearandfar.tables import Table, added, times
from nearandfar.webs import Web
from tests.support import (
    FORK, KNOT, LANE, LOOSE, NAMED, SQUARE, TWIN, Likeable, Touchy, caught, expect, expect_in_order, far, given, make,
    many_tables, no_pairs_of, no_tables, no_things_of, odd_values, pairs, random_tables,
)

THREE = (("ab", 1), ("ac", 2), ("bc", 3))
NO_THINGS = [
    "a", "abcdefgh", "aab", "abb", "aba", "ba", "acb", "AB", "aB", "ABC", "a1", "a b", "ab\n", "a-z", "", "aa", b"ab", None,
    ("a", "b"), ["a", "b"], 12, True, "\u00e9\u00ea", {"a": 1, "b": 2}, Touchy(),
]
NO_DISTANCES = [-1, 1000001, 10 ** 90, True, False, "1", None, (1,), [1], b"1", 1j, Touchy(), Likeable()]


def full(things, distance):
    return make(things, lambda x, y: distance)


class TestLimits(unittest.TestCase):
    def test_limits(self):
        self.assertEqual((2, 7, 1000000), (limits.LEAST_THINGS, limits.MOST_THINGS, limits.MOST_DISTANCE))


class TestMaking(unittest.TestCase):
    def test_right_tables_of_two_to_seven_things(self):
        for things in ("az", "abc", "wxyz", "abcde", "bcdxyz", "abcdefg"):
            for distance in (0, 1, 1000000):
                distances = tuple((pair, distance) for pair in pairs(things))
                for table in (Table(things, distances), Table(things=things, distances=distances)):
                    self.assertEqual((things, distances, len(things)), (table.things, table.distances, len(table)))

    def test_things_that_are_none(self):
        for things in NO_THINGS + odd_values():
            expect(self, InvalidThings, {"given": things}, Table, things, THREE)
            expect(self, InvalidThings, {"given": things}, Table, distances=None, things=things)

    def test_distances_that_are_no_tuple(self):
        for distances in (None, list(THREE), dict(THREE), "ab", 3, True, Touchy(), {1}, LANE):
            expect(self, InvalidDistances, {"index": None}, Table, "abc", distances)
            expect(self, InvalidDistances, {"index": None}, Table, distances=distances, things="abc")

    def test_too_few_and_too_many(self):
        for size in range(3):
            expect(self, InvalidDistances, {"index": size}, Table, "abc", THREE[:size])
        for more in (("cd", 1), ("bc", 3), None, 7, Touchy()):
            expect(self, InvalidDistances, {"index": 3}, Table, "abc", THREE + (more,))
            expect(self, InvalidDistances, {"index": 3}, Table, "abc", THREE + (more, more))
        expect(self, InvalidDistances, {"index": 0}, Table, "abc", ())

    def test_first_wrong_element(self):
        wrong = [
            ["ab", 1], ("ab",), ("ab", 1, 1), (), "ab", None, 1, Touchy(), Likeable(), (Touchy(), 1), (Likeable(), 1), ("ba", 1),
            ("zz", 1), ("a", 1), (("a", "b"), 1), (b"ab", 1), (1, "ab"), (None, 1), ("ab ", 1), ("AB", 1),
        ]
        for at in range(3):
            pair = THREE[at][0]
            here = wrong + [(pair, distance) for distance in NO_DISTANCES] + [[pair, 1], {pair: 1}]
            for element in here:
                row = THREE[:at] + (element,) + THREE[at + 1:]
                expect(self, InvalidDistances, {"index": at}, Table, "abc", row)
                # What is wrong behind the first wrong one is not looked at, too few or too many neither.
                expect(self, InvalidDistances, {"index": at}, Table, "abc", THREE[:at] + (element,))
                expect(self, InvalidDistances, {"index": at}, Table, "abc", row + (None, None))

    def test_wrong_order(self):
        expect(self, InvalidDistances, {"index": 0}, Table, "abc", (THREE[1], THREE[0], THREE[2]))
        expect(self, InvalidDistances, {"index": 1}, Table, "abc", (THREE[0], THREE[2], THREE[1]))
        expect(self, InvalidDistances, {"index": 1}, Table, "abc", (THREE[0], THREE[0], THREE[2]))


class TestTexts(unittest.TestCase):
    def test_the_text_read_again(self):
        for table in many_tables():
            rows = [table.things] + [f"{pair} {distance}" for pair, distance in table.distances]
            self.assertEqual("\n".join(rows), str(table))
            for again in (Table.told(str(table)), Table.told(text=str(table)), table.told(str(table))):
                self.assertEqual(table, again)
                self.assertEqual((table.things, table.distances), (again.things, again.distances))
                self.assertIs(Table, again.__class__)

    def test_other_texts(self):
        text = "abc\nab 9\nac 20\nbc 1000000"
        Table.told(text)
        wrong = [
            text.replace(" 9", " 09"), text.replace(" 9", " +9"), text.replace(" 9", " -9"), text.replace(" 9", "  9"),
            text.replace(" 9", " 9 "), text.replace(" 9", "\t9"), text.replace(" 9", "9"), text.replace(" 9", " "),
            text.replace(" 9", ""), text.replace(" 9", " 9.0"), text.replace(" 9", " 9_0"), text.replace(" 9", " x"),
            text.replace(" 9", " 1000001"), text.replace(" 9", " 10000000000"), text.replace(" 9", " 9 9"),
            text.replace(" 9", " 00"), text.replace(" 9", " ?"), text.replace(" 9", " True"), text.replace("ab ", "ba "),
            text.replace(" 9", " \u0669"), text.replace(" 9", " \u00b2"), text.replace(" 9", " " + "1" * 5000),
            text.replace("ab ", "AB "), text.replace("ab ", "ad "), text.replace("ab ", "a "), text.replace("ab ", " ab "),
            text + "\n", "\n" + text, text + " ", " " + text, text.replace("\n", "\n\n"), text.replace("\n", "\r\n"),
            text.replace("\n", " "), text.replace("\n", ","), "abc\nac 20\nab 9\nbc 3", "abc\nab 9\nbc 3\nac 20",
            "abc\nab 9\nac 20", "abc\nac 20\nbc 3", "abc", "abc\n", "", "\n", "a", "a\n", "abcd\nab 9\nac 20\nbc 3",
            "acb\nab 9\nac 20\nbc 3", "ABC\nAB 9\nAC 20\nBC 3", "aab\naa 1\nab 1\nab 1", "a\naa 1", "abc\nab 9\nac 20\nbc 3\nbc 3",
            "abcdefgh\n" + "\n".join(pair + " 1" for pair in pairs("abcdefgh")),
        ]
        for value in wrong + odd_values() + [LANE, 7, text.encode(), [text], (text,), Table]:
            expect(self, InvalidText, {"given": value}, Table.told, value)
            expect(self, InvalidText, {"given": value}, Table.told, text=value)


class TestReading(unittest.TestCase):
    def test_far(self):
        for table in many_tables():
            for one in table.things:
                for two in table.things:
                    self.assertEqual(far(table, one, two), table.far(one, two))
                    self.assertEqual(table.far(two, one), table.far(thing=one, other=two))
        expect_in_order(self, LANE.far, {"thing": "a", "other": "d"}, {
            "thing": given(UnknownThing, no_things_of("abcd")), "other": given(UnknownThing, no_things_of("abcd")),
        })
        expect(self, UnknownThing, {"given": "z"}, LANE.far, "z", "z")

    def test_things_and_distances_cannot_be_set(self):
        table = Table("abc", THREE)
        for name in ("things", "distances"):
            self.assertRaises(AttributeError, setattr, table, name, "xyz")
        self.assertEqual(("abc", THREE), (table.things, table.distances))

    def test_equal_exactly_if_the_texts_are(self):
        tables = many_tables()
        for one in tables[:40]:
            for two in tables:
                self.assertIs(str(one) == str(two), one == two)
                self.assertIs(str(one) != str(two), one != two)

    def test_equal_to_no_other_value(self):
        for value in odd_values() + ["abc", THREE, str(LOOSE), ("abc", THREE), Web("ab", (("ab", 1),))]:
            self.assertIs(False, LOOSE == value)
            self.assertIs(True, LOOSE != value)
            if value.__class__ not in (Touchy, Likeable):
                self.assertIs(False, value == LOOSE)
                self.assertIs(True, value != LOOSE)

    def test_in(self):
        again = Table.told(str(LOOSE))
        self.assertIn(again, [LANE, 3, LOOSE])
        self.assertIn(again, (None, "abc", LOOSE))
        self.assertNotIn(again, [LANE, "abc", str(LOOSE), None, LOOSE.distances])
        self.assertNotIn(str(again), [LANE, LOOSE])

    def test_every_table_is_true(self):
        for table in many_tables():
            self.assertTrue(table)

    def test_equal_arguments_give_equal_results(self):
        for table in NAMED:
            self.assertEqual(Table(table.things, table.distances), Table(table.things, table.distances))
            self.assertEqual(str(times(table, 2)), str(times(Table.told(str(table)), 2)))


class TestChanging(unittest.TestCase):
    def setUp(self):
        self.texts = [str(table) for table in NAMED]

    def tearDown(self):
        self.assertEqual(self.texts, [str(table) for table in NAMED])

    def test_changed(self):
        for table in NAMED:
            for pair in pairs(table.things):
                for distance in (0, 17, 1000000):
                    other = table.changed(pair, distance)
                    lengths = dict(table.distances)
                    lengths[pair] = distance
                    self.assertEqual(tuple(lengths.items()), other.distances)
                    self.assertEqual(table.things, other.things)
                    self.assertEqual(distance, other.far(pair[1], pair[0]))
                    self.assertEqual(other, table.changed(distance=distance, pair=pair))
        expect_in_order(self, LANE.changed, {"pair": "ad", "distance": 5}, {
            "pair": given(InvalidPair, no_pairs_of("abcd")), "distance": given(InvalidNumber, NO_DISTANCES + odd_values()),
        })

    def test_without(self):
        for table in NAMED:
            for thing in table.things:
                other = table.without(thing)
                kept = tuple((pair, distance) for pair, distance in table.distances if thing not in pair)
                self.assertEqual((table.things.replace(thing, ""), kept), (other.things, other.distances))
                self.assertEqual(other, table.without(thing=thing))
        expect_in_order(self, LANE.without, {"thing": "a"}, {"thing": given(UnknownThing, no_things_of("abcd"))})
        expect_in_order(self, LANE.without("a").without("b").without, {"thing": "c"}, {
            "thing": given(UnknownThing, no_things_of("cd")),
        })

    def test_too_few(self):
        two = Table("xy", (("xy", 0),))
        for thing in "xy":
            expect(self, TooFew, {"given": 1}, two.without, thing)
            expect(self, TooFew, {"given": 1}, two.without, thing=thing)
        expect(self, UnknownThing, {"given": "z"}, two.without, "z")

    def test_grown(self):
        for things in ("bd", "bdf", "bdfhkm"):
            table = full(things, 5)
            for letter in "aceglnxz":
                row = tuple(range(len(things) - 1)) + (1000000,)
                other = table.grown(letter, row)
                self.assertEqual("".join(sorted(things + letter)), other.things)
                self.assertEqual(row, tuple(other.far(letter, thing) for thing in things))
                self.assertEqual(table, other.without(letter))
                self.assertEqual(other, table.grown(row=row, letter=letter))

    def test_grown_errors(self):
        rows = [(row, InvalidRow, {"index": None}) for row in (None, [1, 2, 3, 4], "1234", 4, Touchy(), range(4), {1, 2})]
        rows += [((1, 2, 3, 4)[:size], InvalidRow, {"index": size}) for size in range(4)]
        rows += [((1, 2, 3, 4, more), InvalidRow, {"index": 4}) for more in (1, None, Touchy())]
        for at in range(4):
            for wrong in NO_DISTANCES:
                row = (0, 1, 2, 1000000)
                rows.append((row[:at] + (wrong,) + row[at + 1:], InvalidRow, {"index": at}))
                rows.append((row[:at] + (wrong,), InvalidRow, {"index": at}))
                rows.append((row[:at] + (wrong,) * 7, InvalidRow, {"index": at}))
        letters = given(InvalidThing, odd_values() + list("abcd") + ["A", "Z", "1", "ef", "e ", ("e",), b"e"])
        expect_in_order(self, LANE.grown, {"letter": "e", "row": (1, 2, 3, 4)}, {"letter": letters, "row": rows})

    def test_too_many(self):
        seven = full("abcdefg", 3)
        expect(self, TooMany, {"given": 8}, seven.grown, "h", (1,) * 7)
        expect(self, TooMany, {"given": 8}, seven.grown, row=(0,) * 7, letter="z")
        expect(self, InvalidRow, {"index": 6}, seven.grown, "h", (1,) * 6)
        expect(self, InvalidThing, {"given": "g"}, seven.grown, "g", (1,) * 6)
        self.assertEqual(7, len(full("abcdef", 3).grown("g", (1,) * 6)))

    def test_renamed(self):
        for table, letters in ((LANE, "dcba"), (LANE, "abcd"), (LANE, "zebo"), (LOOSE, "xcb"), (KNOT, "vwxyz"), (FORK, "edcab")):
            for other in (table.renamed(letters), table.renamed(letters=letters)):
                self.assertEqual("".join(sorted(letters)), other.things)
                for one, new_one in zip(table.things, letters):
                    for two, new_two in zip(table.things, letters):
                        self.assertEqual(table.far(one, two), other.far(new_one, new_two))
        wrong = odd_values() + ["abc", "abcde", "abca", "aacd", "abcD", "abc1", "abc ", ["a", "b", "c", "d"], b"abcd", 4, LANE]
        expect_in_order(self, LANE.renamed, {"letters": "wxyz"}, {"letters": given(InvalidThings, wrong)})

    def test_times(self):
        for table in NAMED:
            for factor in (0, 1, 2, 1000):
                other = times(table, factor)
                self.assertEqual(tuple((pair, factor * distance) for pair, distance in table.distances), other.distances)
                self.assertEqual((table.things, other), (other.things, times(factor=factor, table=table)))
        numbers = [-1, 1001, 10 ** 99, True, False, "2", None, (2,), [2], Touchy()]
        expect_in_order(self, times, {"table": LANE, "factor": 3}, {
            "table": given(NotATable, no_tables()), "factor": given(InvalidNumber, numbers + odd_values()),
        })

    def test_times_too_many(self):
        table = full("abc", 1000).changed("ac", 1001)
        expect(self, TooMany, {"given": 1001000}, times, table, 1000)
        expect(self, TooMany, {"given": 1001000}, times, factor=1000, table=table)
        expect(self, TooMany, {"given": 1000000000}, times, full("ab", 1000000), 1000)
        expect(self, InvalidNumber, {"given": 1001}, times, table, 1001)
        self.assertEqual(999999, times(full("ab", 333333), 3).far("a", "b"))
        self.assertEqual(1000000, times(full("ab", 1000), 1000).far("a", "b"))

    def test_added(self):
        for one, two in ((LANE, SQUARE), (SQUARE, LANE), (FORK, KNOT), (LOOSE, TWIN), (TWIN, TWIN)):
            for other in (added(one, two), added(other_table=two, table=one)):
                self.assertEqual(one.things, other.things)
                for pair in pairs(one.things):
                    self.assertEqual(far(one, *pair) + far(two, *pair), far(other, *pair))
        expect_in_order(self, added, {"table": LANE, "other_table": SQUARE}, {
            "table": given(NotATable, no_tables()), "other_table": given(NotATable, no_tables()),
        })

    def test_added_last_errors(self):
        expect(self, InvalidThings, {"given": "abcde"}, added, LANE, FORK)
        expect(self, InvalidThings, {"given": "abcd"}, added, other_table=LANE, table=FORK)
        expect(self, InvalidThings, {"given": "xyz"}, added, full("abc", 1000000), full("xyz", 1000000))
        great = full("abc", 600000)
        expect(self, TooMany, {"given": 1200001}, added, great, great.changed("bc", 600001))
        expect(self, TooMany, {"given": 1000001}, added, table=full("ab", 1), other_table=full("ab", 1000000))
        self.assertEqual(1000000, added(full("ab", 1), full("ab", 999999)).far("b", "a"))

    def test_nothing_passed_is_changed(self):
        row, rows = [1, 2, 3, 4], [("ab", 1)]
        caught(LANE.grown, "e", row)
        caught(Table, "ab", rows)
        self.assertEqual(([1, 2, 3, 4], [("ab", 1)]), (row, rows))

    def test_results_of_all_kinds_are_tables(self):
        for table in random_tables(5, range(3, 7), 50, 3):
            made = [table.without(table.things[1]), table.changed(table.things[:2], 3), times(table, 2), added(table, table)]
            for other in made:
                self.assertIs(Table, other.__class__)
                self.assertEqual(other, Table(other.things, other.distances))
