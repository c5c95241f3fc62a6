"""Lines, held against going through all threes, strings of four, strings of unlike things and lots."""

import itertools
import unittest

from nearandfar.errors import InvalidThings, NotATable
from nearandfar.lines import bent_three, crooked_four, files, is_line, is_straight, line_lots, longest_files, posts
from tests.support import (
    CHAIN, FORK, KNOT, LANE, LOOSE, POSTS, SQUARE, TWIN, expect, expect_in_order, given, lengths_of, line_table, make,
    many_tables, no_tables, odd_values, ring_table, strings, subsets,
)

TABLES = many_tables()


def straight_by_hand(table, three):
    lengths = lengths_of(table)
    return any(lengths[x, y] + lengths[y, z] == lengths[x, z] for x, y, z in itertools.permutations(three))


def is_part(string, whole):
    """Whether something of the whole can be left out so that the string is left."""
    rest = iter(whole)
    return len(string) < len(whole) and all(thing in rest for thing in string)


def files_by_hand(table):
    lengths = lengths_of(table)
    found = []
    for string in strings(table.things, 2, len(table.things)):
        if sum(lengths[step] for step in zip(string, string[1:])) == lengths[string[0], string[-1]]:
            found.append(string)
    kept = []
    for string in found:
        if not any(is_part(string, other) or is_part(string, other[::-1]) for other in found):
            kept.append(string)
    return tuple(sorted(string for string in kept if string[0] < string[-1]))


def posts_by_hand(table):
    """The least posts, by trying for each thing whether it has the post 0."""
    lengths = lengths_of(table)
    found = []
    for start in table.things:
        row = tuple(lengths[start, thing] for thing in table.things)
        at = dict(zip(table.things, row))
        if all(abs(at[x] - at[y]) == lengths[x, y] for x in table.things for y in table.things):
            found.append(row)
    return min(found, default=None)


def crooked_by_hand(table):
    lengths = lengths_of(table)
    found = []
    for a, c, b, d in itertools.permutations(table.things, 4):
        sides = lengths[a, c] == lengths[b, d] > 0 and lengths[c, b] == lengths[a, d] > 0
        if sides and lengths[a, b] == lengths[c, d] == lengths[a, c] + lengths[a, d] and a < min(c, b, d) and c < d:
            found.append(a + c + b + d)
    return min(found, default=None)


class TestStraight(unittest.TestCase):
    def test_against_all_threes(self):
        for table in TABLES:
            for three in itertools.combinations(table.things, 3):
                expected = straight_by_hand(table, three)
                self.assertIs(expected, is_straight(table, "".join(three)))
                self.assertIs(expected, is_straight(things="".join(three), table=table))

    def test_errors(self):
        things = odd_values() + [
            "ab", "abcd", "acb", "cba", "aab", "abz", "abe", "a", "ABC", "ab ", ("a", "b", "c"), ["a", "b", "c"], 3, "abc\n", LANE,
        ]
        expect_in_order(self, is_straight, {"table": LANE, "things": "abd"}, {
            "table": given(NotATable, no_tables()), "things": given(InvalidThings, things),
        })
        expect(self, InvalidThings, {"given": "ab"}, is_straight, make("ab", lambda x, y: 1), "ab")
        expect(self, InvalidThings, {"given": "abc"}, is_straight, make("abx", lambda x, y: 1), "abc")


class TestFiles(unittest.TestCase):
    def test_against_all_strings(self):
        for table in [one for one in TABLES if len(one) <= 6]:
            found = files_by_hand(table)
            self.assertEqual((found, found), (files(table), files(table=table)))
            longest = tuple(string for string in found if len(string) == max(len(other) for other in found))
            self.assertEqual((longest, longest), (longest_files(table), longest_files(table=table)))

    def test_against_all_strings_of_seven_things(self):
        tables = [make("abcdefg", lambda x, y: ord(y) - ord(x)), ring_table("abcdefg", (1,) * 7), CHAIN, FORK.grown("x", (1,) * 5)]
        for table in tables + [KNOT.grown("f", (1,) * 5).grown("g", (2,) * 6)]:
            self.assertEqual(files_by_hand(table), files(table))

    def test_of_all_twins_each_string_is_a_file(self):
        nothing = make("abcdefg", lambda x, y: 0)
        found = tuple(string for string in strings("abcdefg", 7, 7) if string[0] < string[-1])
        self.assertEqual((found, found), (files(nothing), longest_files(nothing)))

    def test_part_of_a_longer_one_also_where_the_table_is_not_right(self):
        # In abcd b and c are left out: the rest, ad, is a part, but bd is no file within it.
        table = make("abcd", lambda x, y: {"ab": 1, "bc": 5, "cd": 1, "ad": 7, "ac": 1, "bd": 2}[x + y])
        self.assertEqual(files_by_hand(table), files(table))
        self.assertIn("abcd", files(table))
        self.assertNotIn("bd", files(table))

    def test_two_things(self):
        for distance in (0, 5, 1000000):
            table = make("cx", lambda x, y: distance)
            self.assertEqual((("cx",), ("cx",)), (files(table), longest_files(table)))


class TestPosts(unittest.TestCase):
    def test_against_all_starts(self):
        for table in TABLES:
            found = posts_by_hand(table)
            self.assertEqual((found, found), (posts(table), posts(table=table)))
            self.assertIs(found is not None, is_line(table))
            self.assertIs(found is not None, is_line(table=table))

    def test_lines(self):
        for row in POSTS:
            least, most = min(row), max(row)
            rising, falling = tuple(x - least for x in row), tuple(most - x for x in row)
            self.assertEqual(min(rising, falling), posts(line_table("abcdefg"[:len(row)], row)))

    def test_one_distance_changed(self):
        for row in POSTS:
            table = line_table("abcdefg"[:len(row)], row)
            for pair, distance in table.distances:
                if distance < 1000000:
                    other = table.changed(pair, distance + 1)
                    self.assertEqual(posts_by_hand(other), posts(other))
                    self.assertIs(len(table) == 2 or posts_by_hand(other) is not None, is_line(other))

    def test_a_line_exactly_if_neither_a_bent_three_nor_a_crooked_four(self):
        for table in TABLES + every_small_table():
            self.assertIs(is_line(table), bent_three(table) is None and crooked_four(table) is None)


def every_small_table():
    """All tables of three things, and many of four, with small distances."""
    found = []
    for things, most, step in (("abc", 4, 1), ("abcd", 3, 3), ("abcde", 1, 1)):
        names = ["".join(pair) for pair in itertools.combinations(things, 2)]
        for row in list(itertools.product(range(most + 1), repeat=len(names)))[::step]:
            distances = dict(zip(names, row))
            found.append(make(things, lambda x, y: distances[x + y]))
    return found


class TestBars(unittest.TestCase):
    def test_crooked_fours_against_all_strings_of_four(self):
        for table in TABLES + every_small_table()[::2]:
            found = crooked_by_hand(table)
            self.assertEqual((found, found), (crooked_four(table), crooked_four(table=table)))

    def test_rings_of_four(self):
        for letters in ("abcd", "acbd", "dbca", "cdab"):
            for one, two in ((1, 1), (2, 3), (500000, 500000), (1, 999999)):
                table = ring_table("abcd", (one, two, one, two)).renamed(letters)
                self.assertEqual((crooked_by_hand(table), None), (crooked_four(table), bent_three(table)))
                self.assertIsNone(posts(table))
        self.assertEqual("acbd", crooked_four(ring_table("abcd", (2, 3, 2, 3)).renamed("acbd")))
        # The first one as strings is not that of the first four things.
        table = ring_table("abcd", (1, 1, 1, 1)).renamed("acbd").grown("e", (1, 2, 2, 1))
        self.assertEqual(crooked_by_hand(table), crooked_four(table))

    def test_first_as_strings(self):
        # Twins of two things of a ring: several crooked fours.
        table = make("abcdef", lambda x, y: SQUARE.far("acbdbd"["abcdef".index(x)], "acbdbd"["abcdef".index(y)]))
        self.assertEqual((crooked_by_hand(table), "acbd"), (crooked_four(table), crooked_four(table)))
        table = make("abcde", lambda x, y: SQUARE.far("acbdb"["abcde".index(x)], "acbdb"["abcde".index(y)]))
        self.assertEqual((crooked_by_hand(table), "acbd"), (crooked_four(table), crooked_four(table)))

    def test_sides_of_nothing_are_no_crooked_four(self):
        self.assertIsNone(crooked_four(ring_table("abcd", (0, 3, 0, 3))))
        self.assertIsNone(crooked_four(make("abcd", lambda x, y: 0)))

    def test_bent_threes_against_all_threes(self):
        for table in TABLES:
            bent = [three for three in itertools.combinations(table.things, 3) if not straight_by_hand(table, three)]
            found = "".join(bent[0]) if bent else None
            self.assertEqual((found, found), (bent_three(table), bent_three(table=table)))

    def test_line_lots_against_all_lots(self):
        for table in TABLES:
            lots = []
            for lot in subsets(table.things):
                if len(lot) >= 2:
                    rest = table
                    for thing in table.things:
                        if thing not in lot:
                            rest = rest.without(thing)
                    if posts_by_hand(rest) is not None:
                        lots.append(lot)
            found = tuple(sorted(lot for lot in lots if not any(set(lot) < set(other) for other in lots)))
            self.assertEqual((found, found), (line_lots(table), line_lots(table=table)))

    def test_some_line_lots(self):
        self.assertEqual((("abcd",), ("abc",)), (line_lots(LANE), line_lots(TWIN)))
        self.assertEqual(("ab",), line_lots(make("ab", lambda x, y: 7)))

    def test_errors(self):
        for call in (files, longest_files, is_line, posts, crooked_four, bent_three, line_lots):
            expect_in_order(self, call, {"table": LOOSE}, {"table": given(NotATable, no_tables())})
