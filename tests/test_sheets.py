"""Sheets: tables some of whose distances are not known."""

import random
import unittest

from nearandfar.errors import InvalidDistances, InvalidNumber, InvalidPair, InvalidText, InvalidThings
from nearandfar.sheets import Sheet
from nearandfar.tables import Table
from nearandfar.webs import Web
from tests.support import (
    LANE, Likeable, Touchy, expect, expect_in_order, given, make, no_pairs_of, odd_values, pairs, random_tables,
)

PART = Sheet("abcd", (("ab", 1), ("ac", 3), ("ad", None), ("bc", 2), ("bd", None), ("cd", 3)))
TEXT = "abcd\nab 1\nac 3\nad ?\nbc 2\nbd ?\ncd 3"


def drawn_sheets(seed, sizes, greatest, count):
    """Pairs of things and distances, None for some."""
    chance = random.Random(seed)
    for table in random_tables(seed, sizes, greatest, count):
        share = chance.choice((0, 0.2, 0.5, 0.8, 1))
        yield table.things, tuple((pair, None if chance.random() < share else distance) for pair, distance in table.distances)


def wrong_distances():
    """Triples for expect_in_order of what is no tuple of distances for abc."""
    right = (("ab", 1), ("ac", None), ("bc", 3))
    whole = [value for value in odd_values() if not isinstance(value, tuple)] + [list(right), dict(right), "abc"]
    rows = [(value, InvalidDistances, {"index": None}) for value in whole]
    elements = odd_values() + [
        ("ac",), ("ac", 1, 1), ["ac", 1], ("ca", 1), ("ad", 1), ("bc", 1), ("ac", -1), ("ac", 1000001), ("ac", True), ("ac", False),
        ("ac", "?"), ("ac", "1"), ("ac", ()), ("ac", (1,)), (Likeable(), 1), (Touchy(), 1), ("ac", Likeable()), ("ac", Touchy()),
        (("a", "c"), 1), ("ac ", 1), (None, None), ("AC", 1), ("ac", [None]),
    ]
    for element in elements:
        rows.append(((right[0], element, right[2]), InvalidDistances, {"index": 1}))
        rows.append(((right[0], element, element), InvalidDistances, {"index": 1}))
        rows.append((right + (element,), InvalidDistances, {"index": 3}))
    rows += [(right[:size], InvalidDistances, {"index": size}) for size in range(3)]
    rows += [(right + right[2:], InvalidDistances, {"index": 3}), (right[::-1], InvalidDistances, {"index": 0})]
    rows += [((right[0], right[2], right[1]), InvalidDistances, {"index": 1}), (("ab", None), InvalidDistances, {"index": 0})]
    return rows


class TestSheets(unittest.TestCase):
    def test_drawn_sheets(self):
        for things, distances in drawn_sheets(131, range(2, 8), 1000000, 8):
            sheet = Sheet(things, distances)
            self.assertEqual((things, distances, len(things)), (sheet.things, sheet.distances, len(sheet)))
            self.assertEqual(tuple(pair for pair, distance in distances if distance is None), sheet.unknown)
            text = "\n".join([things] + [f"{pair} {'?' if distance is None else distance}" for pair, distance in distances])
            self.assertEqual((text, text), (sheet.text, str(sheet)))
            for other in (Sheet.told(text), Sheet.told(text=text), Sheet(distances=distances, things=things)):
                self.assertIs(True, sheet == other)
                self.assertIs(False, sheet != other)
                self.assertEqual(distances, other.distances)
            self.assertIs(True, bool(sheet))

    def test_the_ends(self):
        for distance in (None, 0, 1000000):
            self.assertEqual((("xy", distance),), Sheet("xy", (("xy", distance),)).distances)
        self.assertEqual(pairs("abcdefg"), list(Sheet("abcdefg", tuple((pair, None) for pair in pairs("abcdefg"))).unknown))
        self.assertEqual((), Sheet.told(str(LANE)).unknown)
        self.assertEqual(LANE.distances, Sheet.told(str(LANE)).distances)
        self.assertEqual(("ad", "bd"), PART.unknown)
        self.assertEqual(TEXT, PART.text)

    def test_wrong_things_and_distances(self):
        things = odd_values() + ["a", "ba", "aab", "abcdefgh", "abC", "ab ", ("a", "b", "c"), ["a", "b", "c"], b"abc"]
        right = {"things": "abc", "distances": (("ab", 1), ("ac", None), ("bc", 3))}
        expect_in_order(self, Sheet, right, {"things": given(InvalidThings, things), "distances": wrong_distances()})

    def test_texts(self):
        texts = odd_values() + [
            TEXT + "\n", "\n" + TEXT, TEXT + " ", " " + TEXT, TEXT.replace("?", "??", 1), TEXT.replace("?", "", 1), TEXT.replace(" ?", "?", 1),
            TEXT.replace("?", " ?", 1), TEXT.replace("?", "? ", 1), TEXT.replace("?", "None"), TEXT.replace("?", "-1"), TEXT.replace("?", "+1"),
            TEXT.replace("ab 1", "ab 01"), TEXT.replace("ab 1", "ab  1"), TEXT.replace("ab 1", "ab 1000001"), TEXT.replace("ab 1", "ab 1.0"),
            TEXT.replace("ab 1", "ab 1_0"), TEXT.replace("ab 1", "ab"), TEXT.replace("ab 1\n", ""), TEXT.replace("ab 1", "ba 1"),
            TEXT.replace("ab", "AB"), TEXT.replace("\n", " "), TEXT.replace("\n", "\n\n", 1), TEXT[:-5], TEXT + "\nde 3", "abcd", "abcd\n", "ab\n?",
            "ab\nab", "ab\nab ", "ab\n ?", "?", "? ?", "a\n", "ab\n?b 3", TEXT.split("\n"), tuple(TEXT.split("\n")), TEXT.encode(), PART, LANE,
        ]
        expect_in_order(self, Sheet.told, {"text": TEXT}, {"text": given(InvalidText, texts)})
        self.assertEqual("ab\nab ?", str(Sheet.told("ab\nab ?")))
        # What a table's text does not have stays out of it.
        expect(self, InvalidText, {"given": TEXT}, Table.told, TEXT)
        expect(self, InvalidText, {"given": "ab\nab ?"}, Web.told, "ab\nab ?")

    def test_equality(self):
        one = Sheet.told(TEXT)
        for other in (Sheet.told(TEXT.replace("?", "1", 1)), Sheet.told(TEXT.replace("ab 1", "ab ?")), Sheet.told("ab\nab ?")):
            self.assertIs(False, one == other)
            self.assertIs(True, one != other)
        self.assertIs(False, Sheet.told(str(LANE)) == LANE)
        self.assertIs(False, LANE == Sheet.told(str(LANE)))
        for value in odd_values() + [TEXT, one.distances, make("ab", lambda x, y: 1), 3]:
            self.assertIs(False, one == value)
            self.assertIs(True, one != value)
        self.assertIs(True, one in (None, PART))

    def test_told_more(self):
        for things, distances in drawn_sheets(133, range(2, 8), 50, 4):
            sheet = Sheet(things, distances)
            for pair, before in distances:
                for distance in (0, 7, 1000000):
                    told = sheet.told_more(pair, distance)
                    self.assertEqual(tuple((at, distance if at == pair else known) for at, known in distances), told.distances)
                    self.assertEqual(told, sheet.told_more(distance=distance, pair=pair))
                    self.assertEqual(tuple(at for at in sheet.unknown if at != pair), told.unknown)
            self.assertEqual(distances, sheet.distances)

    def test_told_more_errors(self):
        numbers = [value for value in odd_values()] + [-1, 1000001, "1", "?", (1,), [1]]
        expect_in_order(self, PART.told_more, {"pair": "ad", "distance": 3}, {
            "pair": given(InvalidPair, no_pairs_of("abcd")), "distance": given(InvalidNumber, numbers),
        })
        self.assertEqual(TEXT, PART.text)
