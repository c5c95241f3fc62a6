"""Hidden distances, held against going through all fillings whose distances are small."""

import itertools
import random
import unittest

from nearandfar.errors import InvalidNumber, InvalidPair, NotASheet, NotATable, TooMany, Torn
from nearandfar.hidden import (
    fills, filling_with, forced, greatest_filling, known_way, lead, settling, span, trouble,
)
from nearandfar.sheets import Sheet
from tests.support import (
    LANE, SQUARE, closed_by_hand, expect, expect_in_order, far, given, is_right_by_hand, make, no_pairs_of, no_tables, odd_values,
    pairs, random_tables, strings,
)
from tests.test_sheets import PART

TORN = Sheet.told("abc\nab 9\nac 2\nbc 3")
BLANK = Sheet.told("abc\nab ?\nac ?\nbc ?")


def sheet_of(chance, table, blanks):
    """A sheet in which some distances of a table are not known."""
    hidden = chance.sample(pairs(table.things), min(blanks, len(table.distances)))
    return Sheet(table.things, tuple((pair, None if pair in hidden else distance) for pair, distance in table.distances))


def some_sheets(seed, count):
    """Sheets of two to seven things, whole ones and torn ones."""
    chance = random.Random(seed)
    sheets = [PART, TORN, BLANK]
    for size, greatest in itertools.product(range(2, 8), (1, 3, 9, 1000000)):
        for table in random_tables(seed + size, (size,), greatest, count):
            table = chance.choice((table, closed_by_hand(table)))
            sheets.append(sheet_of(chance, table, chance.choice((0, 1, 2, 3, 5, 9, 15, 21))))
    return sheets


def known(sheet):
    lengths = {}
    for (one, other), distance in sheet.distances:
        if distance is not None:
            lengths[one, other] = lengths[other, one] = distance
    return lengths


def length_by(lengths, way):
    """The length of a way, None if one of its distances is not known."""
    steps = [lengths.get(step) for step in zip(way, way[1:])]
    return None if None in steps else sum(steps)


def shortest_by_hand(sheet):
    """The lengths of shortest known ways, by going through all ways without a thing twice."""
    lengths, least = known(sheet), {}
    for way in strings(sheet.things, 2, len(sheet.things)):
        length = length_by(lengths, way)
        if length is not None:
            step = way[0] + way[-1]
            least[step] = min(length, least.get(step, length))
    return least


def is_torn(sheet):
    least, lengths = shortest_by_hand(sheet), known(sheet)
    return any(least[one + other] < distance for (one, other), distance in lengths.items())


def small_sheets(seed):
    """Sheets with a known way between any two things and few unknown pairs, so that few tables can be fillings."""
    chance = random.Random(seed)
    found = [PART, Sheet.told("abc\nab 2\nac 3\nbc ?"), Sheet.told("abc\nab 0\nac 4\nbc ?"), Sheet.told("ab\nab 3")]
    tables = random_tables(seed, (3, 4, 5), 5, 12) + random_tables(seed + 1, (6, 7), 2, 4)
    for table in tables:
        sheet = sheet_of(chance, closed_by_hand(table), chance.randint(0, 3))
        if all(one + other in shortest_by_hand(sheet) for one, other in itertools.combinations(sheet.things, 2)):
            found.append(sheet)
    return found


def fillings(sheet):
    """All fillings: no distance is greater than a shortest known way."""
    least = shortest_by_hand(sheet)
    ranges = [range(least[pair] + 2) if distance is None else (distance,) for pair, distance in sheet.distances]
    found = []
    for row in itertools.product(*ranges):
        lengths = dict(zip(pairs(sheet.things), row))
        table = make(sheet.things, lambda x, y: lengths[x + y])
        if is_right_by_hand(table):
            found.append(table)
    return found


class TestTrouble(unittest.TestCase):
    def test_trouble(self):
        seen = {True: 0, False: 0}
        for sheet in some_sheets(141, 5):
            found, lengths = trouble(sheet), known(sheet)
            self.assertEqual(found, trouble(sheet=sheet))
            seen[is_torn(sheet)] += 1
            self.assertIs(is_torn(sheet), found is not None)
            if found is not None:
                pair, way = found
                self.assertEqual((tuple, pair), (found.__class__, way[0] + way[-1]))
                self.assertLess(length_by(lengths, way), dict(sheet.distances)[pair])
                self.assertTrue(all(here != there for here, there in zip(way, way[1:])))
        self.assertTrue(min(seen.values()) > 10, seen)

    def test_torn_is_raised_last(self):
        seen = 0
        for sheet in some_sheets(143, 6):
            found = trouble(sheet)
            if found is None:
                continue
            seen += 1
            pair, other = sheet.distances[0][0], sheet.distances[-1][0]
            for call, arguments in (
                (span, (pair,)), (forced, ()), (greatest_filling, ()), (filling_with, (pair, 0)), (lead, (pair, other)), (known_way, (pair,)),
            ):
                expect(self, Torn, {"given": found}, call, sheet, *arguments)
            for call, arguments in ((span, ("zz",)), (filling_with, ("zz", 0)), (lead, ("zz", other)), (lead, (pair, "zz")), (known_way, ("zz",))):
                expect(self, InvalidPair, {"given": "zz"}, call, sheet, *arguments)
            expect(self, InvalidNumber, {"given": -1}, filling_with, sheet, pair, -1)
            expect(self, Torn, {"given": None}, settling, sheet, make(sheet.things, lambda x, y: 0))
        self.assertGreater(seen, 10)

    def test_the_same_distance_is_no_trouble(self):
        self.assertIsNone(trouble(Sheet.told("abc\nab 5\nac 2\nbc 3")))
        self.assertEqual(("ab", "acb"), trouble(Sheet.told("abc\nab 6\nac 2\nbc 3")))
        self.assertIn(trouble(Sheet.told("abcd\nab 1\nac ?\nad 9\nbc 1\nbd ?\ncd 1")), (("ad", "abcd"),))


class TestFillings(unittest.TestCase):
    def test_small_fillings(self):
        for sheet in small_sheets(145):
            found = fillings(sheet)
            if not found:
                self.assertIsNotNone(trouble(sheet))
                continue
            self.assertIsNone(trouble(sheet))
            spans = {}
            for pair in pairs(sheet.things):
                numbers = sorted({far(table, *pair) for table in found})
                spans[pair] = (numbers[0], numbers[-1])
                self.assertEqual(list(range(numbers[0], numbers[-1] + 1)), numbers)
                self.assertEqual((spans[pair],) * 2, (span(sheet, pair), span(pair=pair, sheet=sheet)))
                for distance in range(0, numbers[-1] + 3):
                    told = filling_with(sheet, pair, distance)
                    self.assertEqual(told, filling_with(distance=distance, pair=pair, sheet=sheet))
                    if distance in numbers:
                        self.assertIn(told, found)
                        self.assertEqual(distance, far(told, *pair))
                    else:
                        self.assertIsNone(told)
            single = tuple(pair for pair in sheet.unknown if spans[pair][0] == spans[pair][1])
            self.assertEqual((single, single), (forced(sheet), forced(sheet=sheet)))
            greatest = greatest_filling(sheet)
            self.assertEqual(greatest, greatest_filling(sheet=sheet))
            self.assertIn(greatest, found)
            self.assertEqual({pair: high for pair, (low, high) in spans.items()}, dict(greatest.distances))
            self.leads(sheet, found)
            for table in found[:2] + found[-2:]:
                self.assertIs(True, fills(sheet, table))
                self.settles(sheet, found, table)

    def leads(self, sheet, found):
        for pair, other in itertools.product(pairs(sheet.things), repeat=2):
            differences = [far(table, *pair) - far(table, *other) for table in found]
            told = (min(differences), max(differences))
            self.assertEqual((told, told), (lead(sheet, pair, other), lead(other=other, pair=pair, sheet=sheet)))

    def settles(self, sheet, found, table):
        lots = []
        for size in range(len(sheet.unknown) + 1):
            for lot in itertools.combinations(sheet.unknown, size):
                left = [one for one in found if all(far(one, *pair) == far(table, *pair) for pair in lot)]
                if len(left) == 1 and not any(set(part) <= set(lot) for part in lots):
                    lots.append(lot)
        self.assertEqual((tuple(lots),) * 2, (settling(sheet, table), settling(table=table, sheet=sheet)))

    def test_greater_sheets(self):
        # Each distance of a span has a filling, the ones beside it have none; a filling is told by its marks alone.
        for sheet in some_sheets(147, 3):
            if trouble(sheet) is not None:
                continue
            least = shortest_by_hand(sheet)
            whole = greatest_filling(sheet)
            self.assertTrue(fills(sheet, whole) and is_right_by_hand(whole))
            for pair in pairs(sheet.things):
                low, high = span(sheet, pair)
                self.assertEqual(min(1000000, least.get(pair, 1000000)), high)
                self.assertEqual(high, far(whole, *pair))
                for distance in sorted({low, low + 1, (low + high) // 2, high} & set(range(low, high + 1))):
                    told = filling_with(sheet, pair, distance)
                    self.assertTrue(fills(sheet, told) and is_right_by_hand(told))
                    self.assertEqual(distance, far(told, *pair))
                for distance in (low - 1, high + 1):
                    if 0 <= distance <= 1000000:
                        self.assertIsNone(filling_with(sheet, pair, distance))
                        torn = trouble(sheet.told_more(pair, distance)) is not None
                        self.assertTrue(torn or pair not in sheet.unknown)
                if pair in sheet.unknown:
                    self.assertIs(low == high, pair in forced(sheet))
                else:
                    self.assertEqual((dict(sheet.distances)[pair],) * 2, (low, high))

    def test_leads_of_greater_sheets(self):
        chance = random.Random(12)
        for sheet in some_sheets(149, 2):
            if trouble(sheet) is not None:
                continue
            for _ in range(6):
                pair, other = chance.choice(pairs(sheet.things)), chance.choice(pairs(sheet.things))
                low, high = lead(sheet, pair, other)
                reached = []
                for distance in sorted({*span(sheet, other), (sum(span(sheet, other))) // 2}):
                    inner = span(sheet.told_more(other, distance), pair)
                    reached += [inner[0] - distance, inner[1] - distance]
                self.assertEqual((low, high), (min(reached), max(reached)))

    def test_without_a_known_way(self):
        self.assertEqual((0, 1000000), span(BLANK, "ab"))
        self.assertEqual(make("abc", lambda x, y: 1000000), greatest_filling(BLANK))
        self.assertIsNone(known_way(BLANK, "ac"))
        self.assertEqual((-1000000, 1000000), lead(BLANK, "ab", "ac"))
        self.assertEqual((0, 0), lead(BLANK, "ab", "ab"))
        self.assertEqual(make("abc", lambda x, y: 1000000), filling_with(BLANK, "bc", 1000000))
        parted = Sheet.told("abcd\nab 4\nac ?\nad ?\nbc ?\nbd ?\ncd 1000000")
        self.assertEqual([(0, 1000000), (0, 1000000)], [span(parted, "ac"), span(parted, "bd")])
        self.assertEqual((-4, 4), lead(parted, "ac", "bc"))
        far_off = Sheet.told("abc\nab 1000000\nac ?\nbc 1000000")
        self.assertEqual(((0, 1000000), "abc"), (span(far_off, "ac"), known_way(far_off, "ac")))
        near = Sheet.told("abc\nab 1000000\nac ?\nbc 1")
        self.assertEqual((999999, 1000000), span(near, "ac"))

    def test_known_ways(self):
        for sheet in some_sheets(151, 4):
            if trouble(sheet) is not None:
                continue
            least, lengths = shortest_by_hand(sheet), known(sheet)
            for pair in pairs(sheet.things):
                way = known_way(sheet, pair)
                self.assertEqual(way, known_way(pair=pair, sheet=sheet))
                if pair not in least:
                    self.assertIsNone(way)
                else:
                    self.assertEqual((pair, least[pair]), (way[0] + way[-1], length_by(lengths, way)))

    def test_fills(self):
        chance = random.Random(14)
        for table in random_tables(153, (2, 3, 4, 7), 6, 6):
            table = closed_by_hand(table)
            sheet = sheet_of(chance, table, chance.randint(0, 6))
            self.assertIs(True, fills(sheet, table))
            self.assertIs(True, fills(table=table, sheet=sheet))
            for pair, distance in table.distances:
                other = table.changed(pair, distance + 1)
                self.assertIs(pair in sheet.unknown and is_right_by_hand(other), fills(sheet, other))
        self.assertIs(False, fills(BLANK, LANE))
        self.assertIs(False, fills(TORN, make("abc", lambda x, y: 9)))
        self.assertIs(False, fills(BLANK, make("abd", lambda x, y: 9)))

    def test_settling(self):
        whole = Sheet.told(str(LANE))
        self.assertEqual(((),), settling(whole, LANE))
        forced_one = PART.told_more("ad", 6)
        self.assertEqual(((),), settling(forced_one, LANE))
        for table in (SQUARE, make("abcd", lambda x, y: 5), make("abce", lambda x, y: 5)):
            expect(self, Torn, {"given": None}, settling, PART, table)
        self.assertTrue(all(size == 1 for size in map(len, settling(Sheet.told("ab\nab ?"), make("ab", lambda x, y: 3)))))

    def test_settling_many(self):
        # Eight unknown pairs are told, nine are too many; but first the table must be a filling.
        blank = Sheet("abcde", tuple((pair, None if at < 8 else 4) for at, pair in enumerate(pairs("abcde"))))
        even = make("abcde", lambda x, y: 4)
        lots = settling(blank, even)
        self.assertTrue(lots and all(lot == tuple(sorted(lot)) for lot in lots))
        self.assertEqual(sorted(lots, key=lambda lot: (len(lot), lot)), list(lots))
        more = Sheet("abcde", tuple((pair, None if at < 9 else 4) for at, pair in enumerate(pairs("abcde"))))
        expect(self, TooMany, {"given": 9}, settling, more, even)
        expect(self, Torn, {"given": None}, settling, more, make("abcde", lambda x, y: 5))
        all_blank = Sheet("abcdefg", tuple((pair, None) for pair in pairs("abcdefg")))
        expect(self, TooMany, {"given": 21}, settling, all_blank, make("abcdefg", lambda x, y: 5))

    def test_errors(self):
        sheets = given(NotASheet, odd_values() + [LANE, str(LANE), PART.text, PART.distances, Sheet])
        wrong = given(InvalidPair, no_pairs_of("abcd"))
        for call in (trouble, forced, greatest_filling):
            expect_in_order(self, call, {"sheet": PART}, {"sheet": sheets})
        for call in (fills, settling):
            expect_in_order(self, call, {"sheet": PART, "table": LANE}, {"sheet": sheets, "table": given(NotATable, no_tables() + [PART])})
        for call in (span, known_way):
            expect_in_order(self, call, {"sheet": PART, "pair": "ad"}, {"sheet": sheets, "pair": wrong})
        expect_in_order(self, filling_with, {"sheet": PART, "pair": "ad", "distance": 3}, {
            "sheet": sheets, "pair": wrong, "distance": given(InvalidNumber, odd_values() + [-1, 1000001, "3", (3,)]),
        })
        expect_in_order(self, lead, {"sheet": PART, "pair": "ad", "other": "ab"}, {"sheet": sheets, "pair": wrong, "other": wrong})
