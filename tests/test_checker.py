"""The checker, held against papers looked at by hand, on right papers and claims and on all that is beside them."""

import itertools
import random
import unittest

from nearandfar.certificates import (
    certify_alike, certify_cap, certify_closed, certify_cost, certify_crowd, certify_level, certify_line, certify_needed,
    certify_radius, certify_right, certify_round, certify_sheet, certify_span, certify_strength, certify_sum, certify_tree,
    certify_trip, certify_trips, certify_web,
)
from nearandfar.caps import cap_of, middle_cap
from nearandfar.checker import accepts
from nearandfar.clocks import is_clock
from nearandfar.needed import least_web
from nearandfar.partings import partings
from nearandfar.rounds import round_orders
from nearandfar.ways import is_right, twins
from nearandfar.webs import Web
from tests.papers import KINDS, accepted
from tests.support import (
    CLOCK, FORK, KNOT, LANE, LOOSE, SQUARE, TWIN, Likeable, Touchy, closed_by_hand, line_table, make, odd_values, random_tables,
    random_web, ring_table,
)
from tests.test_hidden import some_sheets

EVEN = make("abcd", lambda x, y: 2)
RING = ring_table("abcde", (1, 2, 1, 3, 1))


def tables():
    found = [LANE, FORK, SQUARE, KNOT, CLOCK, LOOSE, TWIN, EVEN, RING, make("ab", lambda x, y: 3), make("xy", lambda x, y: 0)]
    found += random_tables(181, (2, 3, 4, 5), 4, 2) + [closed_by_hand(one) for one in random_tables(182, (3, 4, 5), 9, 3)]
    return found + [make("abcd", lambda x, y: 0), line_table("abcde", (5, 0, 2, 2, 9)), closed_by_hand(random_tables(183, (6,), 3, 1)[0])]


def certificates(table, chance):
    """Claims with papers of all kinds for a table."""
    things = table.things
    found = [
        certify_right(table), certify_closed(table), certify_line(table), certify_tree(table), certify_trip(table), certify_trips(table),
        certify_span(table), certify_radius(table), certify_crowd(table), certify_cap(table, middle_cap(table)),
        certify_level(table, things[0] + things[-1]), certify_strength(table, chance.choice(partings(table))),
        certify_alike(table, table.renamed("zyxwvut"[:len(table)])), certify_alike(table, LANE),
    ]
    first = tuple(chance.randint(0, 4) for _ in things)
    found.append(certify_cost(table, first, first[::-1]))
    if is_right(table):
        found += [certify_round(table), certify_cap(table, cap_of(table, things[-1]))]
        if not twins(table):
            found += [certify_needed(table), certify_web(least_web(table))]
    if certify_sum(table) is not None:
        found.append(certify_sum(table))
    return found


def all_certificates():
    chance = random.Random(185)
    found = [one for table in tables() for one in certificates(table, chance)]
    found += [certify_web(random_web(seed, 2 + seed % 4, seed % 3, 2)) for seed in range(8)]
    for sheet in some_sheets(187, 1):
        if len(sheet) <= 5:
            found.append(certify_sheet(sheet, sheet.things[0] + sheet.things[1]))
    return found


def beside(value, chance, spare):
    """Values that are other than one in one place: left out, put twice, moved, of another kind, a number greater or less."""
    yield from chance.sample(spare, 3)
    if isinstance(value, bool) or value is None:
        return
    if isinstance(value, int):
        yield from (value + 1, value - 1, -value, value * 2, value == 1, str(value), (value,), value + 1000001)
    elif isinstance(value, str):
        yield from (value + value[-1:], value[::-1], value.upper(), value + " ", value.encode(), list(value), tuple(value), "".join(sorted(value)))
        yield value.replace(" 1", " 2")
        for at in range(len(value)):
            yield value[:at] + value[at + 1:]
            yield value[:at] + value[at:at + 1] + value[at:]
            yield value[:at] + chance.choice("abcdeP?019 ") + value[at + 1:]
            yield value[:at] + value[at:at + 2][::-1] + value[at + 2:]
    elif isinstance(value, tuple):
        yield from (list(value), value + (None,), value[::-1], value + value, (value,), tuple(reversed(sorted(value, key=repr))))
        for at, part in enumerate(value):
            yield value[:at] + value[at + 1:]
            yield value[:at] + (part,) + value[at:]
            yield value[:at] + value[at:at + 2][::-1] + value[at + 2:]
            for other in beside(part, chance, spare):
                yield value[:at] + (other,) + value[at + 1:]


def replaced(value, other):
    """Values that have another one in one place, at any depth, but in strings."""
    yield other
    if isinstance(value, tuple):
        for at, part in enumerate(value):
            for changed in replaced(part, other):
                yield value[:at] + (changed,) + value[at + 1:]


class TestAgainstPapersByHand(unittest.TestCase):
    def test_right_pairs(self):
        words = set()
        for claim, paper in all_certificates():
            words.add(claim[0])
            self.assertIs(True, accepts(claim, paper), (claim, paper))
            self.assertIs(True, accepts(paper=paper, claim=claim))
            self.assertIs(True, accepted(claim, paper), (claim, paper))
        self.assertEqual(set(KINDS), words)

    def test_beside_right_pairs(self):
        chance = random.Random(189)
        spare = [value for value in odd_values() if not isinstance(value, (Touchy, Likeable))] + [(), 0, 1, "a", "ab"]
        seen = {}
        for claim, paper in all_certificates():
            rows = [(other, paper) for other in beside(claim, chance, spare)] + [(claim, other) for other in beside(paper, chance, spare)]
            # Many of them for a word that comes often, all of them for one that does not.
            many = 60 if len(seen.get(claim[0], ())) > 1 else 900
            for one, other in chance.sample(rows, min(len(rows), many)):
                told = accepts(one, other)
                self.assertIs(bool, told.__class__)
                self.assertIs(accepted(one, other), told, (one, other))
                seen.setdefault(claim[0], set()).add(told)
        self.assertEqual({word: {False} for word in KINDS}, {word: told - {True} for word, told in seen.items()})

    def test_papers_of_other_claims(self):
        chance = random.Random(191)
        found = all_certificates()
        papers = [paper for _, paper in found]
        for claim, _ in found:
            for paper in chance.sample(papers, 12):
                self.assertIs(accepted(claim, paper), accepts(claim, paper), (claim, paper))

    def test_numbers_drawn_at_random(self):
        # Parts of any kind for small tables, so that what is accepted is not only what the package made.
        chance = random.Random(193)
        seen = {True: 0, False: 0}
        for table in (LANE, SQUARE, CLOCK, TWIN, EVEN, make("abc", lambda x, y: 2)):
            lots = list(partings(table))
            for _ in range(700):
                parts = tuple(sorted((chance.choice(lots), chance.randint(1, 4)) for _ in range(chance.randint(0, 4))))
                order = "".join(["a"] + chance.sample(table.things[1:], len(table) - 1))
                for claim in (("tree", str(table)), ("sum", str(table)), ("round", str(table), order), ("trips", str(table), chance.randint(0, 14))):
                    told = accepts(claim, parts)
                    seen[told] += 1
                    self.assertIs(accepted(claim, parts), told, (claim, parts))
                self.strings(chance, table, seen)
        self.assertTrue(min(seen.values()) > 100, seen)

    def strings(self, chance, table, seen):
        string = "".join(chance.choice(table.things) for _ in range(chance.randint(2, 4)))
        number = chance.randint(0, 12)
        for claim in (
            ("long", str(table)), ("no line", str(table)), ("no tree", str(table)), ("trip", str(table), number), ("radius", str(table), (number, 2)),
            ("strength", str(table), chance.choice(partings(table)), number % 4), ("radius", str(table), (number, 1)),
        ):
            told = accepts(claim, string)
            seen[told] += 1
            self.assertIs(accepted(claim, string), told, (claim, string))


class TestEachClaim(unittest.TestCase):
    def hold(self, expected, claim, paper):
        self.assertIs(expected, accepts(claim, paper), (claim, paper))
        self.assertIs(expected, accepted(claim, paper), (claim, paper))

    def test_right_and_long(self):
        self.hold(True, ("right", str(LANE)), ())
        self.hold(False, ("right", str(LOOSE)), ())
        self.hold(False, ("right", str(LANE)), None)
        for paper in map("".join, itertools.product("abc", repeat=3)):
            self.hold(paper in ("acb", "bca"), ("long", str(LOOSE)), paper)

    def test_closed(self):
        goal = "abc\nab 5\nac 2\nbc 3"
        self.hold(True, ("closed", str(LOOSE), goal), ("acb", "ac", "bc"))
        self.hold(True, ("closed", str(TWIN), str(TWIN)), ("ababab", "abac", "bac"))
        self.hold(False, ("closed", str(LOOSE), goal), ("ab", "ac", "bc"))
        self.hold(False, ("closed", str(LOOSE), goal), ("bca", "ac", "bc"))
        self.hold(False, ("closed", str(LOOSE), str(LOOSE)), ("ab", "ac", "bc"))
        self.hold(False, ("closed", str(LOOSE), "abd\nab 5\nad 2\nbd 3"), ("acb", "ac", "bc"))
        self.hold(False, ("closed", goal, "abc\nab 4\nac 2\nbc 3"), ("ab", "ac", "bc"))
        # A right table and ways as long as its distances, but not shortest ones.
        self.hold(True, ("closed", "ab\nab 1", "ab\nab 1"), ("ab",))
        self.hold(False, ("closed", "ab\nab 1", "ab\nab 3"), ("abab",))

    def test_makes(self):
        web = "abcd\nab 1\nac 2\nad 1\nbc 1\ncd 1"
        roads = ("ab", "adc", "ad", "bc", "bad", "cd")
        self.hold(True, ("makes", web, str(SQUARE)), roads)
        self.hold(True, ("makes", web, str(SQUARE)), ("ab", "ac") + roads[2:])
        self.hold(False, ("makes", web, str(SQUARE)), ("ab", "abdc") + roads[2:])
        self.hold(False, ("makes", web, str(SQUARE)), ("ab", "cda") + roads[2:])
        self.hold(False, ("makes", web, str(SQUARE)), ("adcb",) + roads[1:])
        # The roads are as long as they should be, but shorter ones are there.
        self.hold(False, ("makes", web, str(SQUARE.changed("ab", 3))), ("adcb",) + roads[1:])
        star = "abc\nXa 1\nXb 2\nXc 3"
        self.hold(True, ("makes", star, "abc\nab 3\nac 4\nbc 5"), ("aXb", "aXc", "bXc"))
        self.hold(False, ("makes", star, "abc\nab 3\nac 4\nbc 5"), ("aXaXb", "aXc", "bXc"))
        self.hold(False, ("makes", "abc\nXa 1\nXb 2\nYc 3", "abc\nab 3\nac 4\nbc 5"), ("aXb", "aXc", "bXc"))

    def test_needed(self):
        paper = (("ac", "b"), ("ad", "b"), ("bd", "c"))
        needed = ("ab", "bc", "cd")
        self.hold(True, ("needed", str(LANE), needed), paper)
        self.hold(True, ("needed", str(LANE), needed), (paper[0], ("ad", "c"), paper[2]))
        self.hold(False, ("needed", str(LANE), needed), (paper[0], ("ad", "a"), paper[2]))
        self.hold(False, ("needed", str(LANE), needed + ("bd",)), paper[:2])
        self.hold(False, ("needed", str(LANE), needed[:2]), paper)
        self.hold(False, ("needed", str(LANE), list(needed)), paper)
        self.hold(False, ("needed", str(TWIN), ("ac", "bc")), (("ab", "c"),))
        self.hold(False, ("needed", "abc\nab 9\nac 2\nbc 3", ("ab", "ac", "bc")), ())
        for wrong in (Likeable(), (Likeable(),) * 3, ("ab", "bc", Likeable()), (Touchy(),) * 3, Touchy()):
            self.hold(False, ("needed", str(LANE), wrong), paper)
        for value in (Likeable(), Touchy(), "ad", None):
            for wrong in (value, (value, "b"), ("ac", value), (value,) * 2):
                self.hold(False, ("needed", str(LANE), needed), (wrong,) + paper[1:])

    def test_lines(self):
        self.hold(True, ("line", str(LANE)), (0, 1, 3, 6))
        self.hold(True, ("line", str(LANE)), (6, 5, 3, 0))
        self.hold(False, ("line", str(LANE)), (1, 2, 4, 7))
        self.hold(False, ("line", str(LANE)), (-6, -5, -3, 0))
        self.hold(False, ("line", str(make("ab", lambda x, y: 1))), (0, True))
        self.hold(False, ("line", str(make("ab", lambda x, y: 1))), (False, 1))
        for paper in map("".join, itertools.product("abcd", repeat=4)):
            near = paper in ("abcd", "bcda", "cdab", "dabc", "adcb", "dcba", "cbad", "badc")
            self.hold(near, ("no line", str(SQUARE)), paper)
        for paper in map("".join, itertools.permutations("abc")):
            self.hold(True, ("no line", str(FORK)), paper)
            self.hold(False, ("no line", str(LANE)), paper)
        # Twins are no crooked four.
        for paper in map("".join, itertools.permutations("abcd")):
            self.hold(False, ("no line", str(line_table("abcd", (0, 3, 0, 3)))), paper)

    def test_trees_and_sums(self):
        paper = (("bc", 2), ("cd", 2))
        self.hold(False, ("tree", str(SQUARE)), paper)
        self.hold(True, ("sum", str(SQUARE)), paper)
        self.hold(True, ("tree", str(LANE)), (("bcd", 2), ("cd", 4), ("d", 6)))
        self.hold(True, ("sum", str(LANE)), (("bcd", 2), ("cd", 4), ("d", 6)))
        self.hold(False, ("tree", str(LANE)), (("bcd", 2), ("cd", 1), ("cd", 3), ("d", 6)))
        self.hold(False, ("sum", str(SQUARE)), (("bc", 2), ("cd", 1), ("cd", 1)))
        self.hold(False, ("sum", str(SQUARE)), paper[::-1])
        # Three that clash make the table, but another sum is there, too.
        self.hold(False, ("sum", str(EVEN)), (("bc", 2), ("bd", 2), ("cd", 2)))
        self.hold(True, ("sum", str(EVEN)), (("b", 2), ("bcd", 2), ("c", 2), ("d", 2)))
        self.hold(True, ("tree", "ab\nab 0"), ())
        self.hold(False, ("tree", "ab\nab 3"), ())
        self.hold(False, ("tree", "ab\nab 3"), (("a", 6),))
        for word in ("tree", "sum"):
            self.hold(False, (word, "ab\nab 3"), (("", 1), ("b", 6)))
            self.hold(False, (word, "ab\nab 3"), (("b", 6), ("b", 6)))
        self.hold(True, ("no tree", str(SQUARE)), "abcd")
        self.hold(False, ("no tree", str(SQUARE)), "acbd")
        self.hold(True, ("no tree", str(LOOSE)), "abcc")
        self.hold(False, ("no tree", str(LOOSE)), "aacb")

    def test_strength(self):
        self.hold(True, ("strength", str(SQUARE), "bc", 2), "adbc")
        self.hold(True, ("strength", str(SQUARE), "bc", 2), "bcda")
        self.hold(True, ("strength", str(SQUARE), "bd", 0), "acbd")
        self.hold(True, ("strength", str(LANE), "d", 6), "ccdd")
        self.hold(False, ("strength", str(LANE), "d", 10), "bbdd")
        self.hold(False, ("strength", str(SQUARE), "bc", 2), "abcd")
        self.hold(False, ("strength", str(SQUARE), "ad", 2), "adbc")
        self.hold(False, ("strength", str(make("ab", lambda x, y: 1)), "b", True), "aabb")

    def test_rounds(self):
        self.hold(True, ("round", str(SQUARE), "abcd"), (("bc", 2), ("cd", 2)))
        self.hold(False, ("round", str(SQUARE), "abdc"), (("bc", 2), ("cd", 2)))
        self.hold(False, ("round", str(SQUARE), "adcb"), (("bc", 2), ("cd", 2)))
        self.hold(False, ("round", str(SQUARE), "bcda"), (("bc", 2), ("cd", 2)))
        # Ascending, and the numbers of one run are added.
        self.hold(True, ("round", "ab\nab 3", "ab"), (("b", 2), ("b", 4)))
        self.hold(False, ("round", "ab\nab 3", "ab"), (("b", 3), ("b", 3)))
        self.hold(False, ("round", "ab\nab 3", "ab"), (("b", 4), ("b", 2)))
        claim, paper = certify_round(KNOT)
        self.assertEqual((("no round", str(KNOT)), 12), (claim, len(paper)))
        self.hold(True, claim, paper)
        self.hold(False, claim, paper[:-1])
        self.hold(False, claim, paper[-1:] + paper[1:])
        self.hold(False, ("no round", str(LANE)), paper[:3])
        self.hold(False, ("no round", str(LOOSE)), ("abcc",))

    def test_trips(self):
        self.hold(True, ("trip", str(LANE), 12), "abdc")
        self.hold(False, ("trip", str(LANE), 11), "abdc")
        self.hold(True, ("trip", str(LANE), 10 ** 50), "acbd")
        self.hold(False, ("trip", str(LANE), 100), "adcb")
        for number in (-5, 0, 5, 6, 7):
            self.hold(number <= 6, ("trips", str(KNOT), number), ())
        self.hold(True, ("trips", str(SQUARE), 4), (("bc", 2), ("cd", 2)))
        self.hold(True, ("trips", str(SQUARE), 3), (("bc", 1), ("cd", 2)))
        self.hold(False, ("trips", str(SQUARE), 4), (("bc", 1), ("cd", 2)))
        self.hold(False, ("trips", str(SQUARE), 4), (("bc", 3), ("cd", 1)))
        self.hold(False, ("trips", str(SQUARE), True), (("bc", 1),))
        self.hold(False, ("trips", str(SQUARE), 5), (("", 1), ("bc", 2), ("cd", 2)))
        self.hold(True, ("trips", str(LANE), 3), (("d", 1), ("d", 2)))
        self.hold(False, ("trips", str(SQUARE), 4), (("abc", 4),))

    def test_levels_and_trees(self):
        self.hold(True, ("level", str(LANE), "ad", 3), ("abcd", "abc"))
        self.hold(True, ("level", str(LANE), "ad", 3), ("abcbcd", "abc"))
        self.hold(False, ("level", str(LANE), "ad", 3), ("abcd", "ab"))
        self.hold(False, ("level", str(LANE), "ad", 3), ("acd", "abcd"))
        self.hold(True, ("level", str(LANE), "ad", 3), ("acd", "abc"))
        self.hold(False, ("level", str(LANE), "ad", 3), ("abd", "abc"))
        self.hold(False, ("level", str(LANE), "ad", 3), ("dcba", "abc"))
        self.hold(False, ("level", str(LANE), "ad", 3), ("abcd", "cab"))
        self.hold(False, ("level", str(LANE), "da", 3), ("dcba", "d"))
        self.hold(True, ("least tree", str(LANE), 6), ("ab", "bc", "cd"))
        self.hold(False, ("least tree", str(LANE), 6), ("bc", "ab", "cd"))
        self.hold(False, ("least tree", str(LANE), 7), ("ab", "ac", "cd"))
        # As long together as a least tree, but a ring.
        self.hold(False, ("least tree", str(make("abcd", lambda x, y: 1)), 3), ("ab", "ac", "bc"))
        self.hold(False, ("least tree", str(make("abc", lambda x, y: 0)), 0), ("ab", "ac", "bc"))
        self.hold(False, ("least tree", str(make("abc", lambda x, y: 0)), 0), ("ab",))
        # The ties of it are least ways each, but not together.
        table = "abc\nab 5\nac 1\nbc 5"
        self.hold(False, ("least tree", table, 10), ("ab", "bc"))
        self.hold(True, ("least tree", table, 6), ("ab", "ac"))

    def test_crowds(self):
        self.hold(True, ("crowd", str(EVEN)), (("b", (1, 1)), ("bcd", (1, 1)), ("c", (1, 1)), ("d", (1, 1))))
        self.hold(True, ("crowd", str(EVEN)), (("bc", (1, 1)), ("bd", (1, 1)), ("cd", (1, 1))))
        self.hold(False, ("crowd", str(EVEN)), (("bc", (2, 2)), ("bd", (1, 1)), ("cd", (1, 1))))
        self.hold(False, ("crowd", str(EVEN)), (("bc", (1, 1)), ("bd", (1, 1)), ("cd", (True, 1))))
        seven = line_table("abcdefg", (0, 1, 2, 3, 4, 5, 6))
        self.hold(True, ("crowd", str(seven)), tuple((lot, (1, 1)) for lot in ("bcdefg", "cdefg", "defg", "efg", "fg", "g")))
        wide = seven.changed("ag", 7)
        # Once from end to end is more than the six steps between.
        bar = tuple(1 if pair == "ag" else -1 if ord(pair[1]) - ord(pair[0]) == 1 else 0 for pair, _ in wide.distances)
        self.hold(True, ("no crowd", str(wide)), bar)
        self.hold(False, ("no crowd", str(seven)), bar)
        self.hold(True, ("no crowd", str(KNOT)), (1, -1, -1, -1, -1, -1, -1, 1, 1, 1))
        self.hold(True, ("no crowd", str(KNOT)), (2, -2, -2, -2, -2, -2, -2, 2, 2, 2))
        self.hold(False, ("no crowd", str(KNOT)), (True, -1, -1, -1, -1, -1, -1, 1, 1, 1))

    def test_costs(self):
        claim = ("cost", str(LANE), (2, 0, 0, 1), (0, 1, 1, 1), 4)
        plan = (("a", "b", 1), ("a", "c", 1))
        self.hold(True, claim, (plan, (6, 5, 3, 0)))
        self.hold(True, claim, (plan, (3, 2, 0, 0)))
        self.hold(False, claim, (plan, (7, 6, 4, 1)))
        self.hold(False, claim, (plan, (6, 5, 3, -1)))
        self.hold(False, claim, (plan[::-1], (6, 5, 3, 0)))
        self.hold(False, claim, (plan[:1], (6, 5, 3, 0)))
        self.hold(False, claim, ((("a", "b", True), plan[1]), (6, 5, 3, 0)))
        self.hold(False, claim[:-1] + (5,), (plan, (6, 5, 3, 0)))
        self.hold(False, ("cost", str(LANE), (2, 0, 0, True), (0, 1, 1, 1), 4), (plan, (6, 5, 3, 0)))
        self.hold(True, ("cost", str(LANE), (0,) * 4, (0,) * 4, 0), ((), (0, 0, 0, 0)))
        self.hold(False, ("cost", str(LANE), (0,) * 4, (0,) * 4, False), ((), (0, 0, 0, 0)))
        self.hold(False, ("cost", str(LANE), (61, 0, 0, 0), (0, 61, 0, 0), 61), ((("a", "b", 61),), (1, 0, 0, 0)))
        # Over c, which is no stop of a plan; and what goes on from b.
        self.hold(False, ("cost", str(LANE), (1, 0, 0, 0), (0, 0, 1, 0), 3), ((("a", "b", 1), ("b", "c", 1)), (3, 2, 0, 0)))
        # Ways are shortest ones, though the table is not right.
        self.hold(True, ("cost", str(LOOSE), (1, 0, 0), (0, 1, 0), 5), ((("a", "b", 1),), (5, 0, 3)))
        self.hold(False, ("cost", str(LOOSE), (1, 0, 0), (0, 1, 0), 9), ((("a", "b", 1),), (9, 0, 3)))

    def test_caps(self):
        ones = ((1, 1),) * 4
        for paper in map("".join, itertools.product("abcd", repeat=4)):
            self.hold(paper == "cdab", ("cap", str(SQUARE), ones), paper)
        self.hold(False, ("cap", str(SQUARE), ((2, 1),) * 4), "cdab")
        self.hold(False, ("cap", str(SQUARE), ((True, 1),) * 4), "cdab")
        self.hold(False, ("cap", str(SQUARE), ((2, 2),) * 4), "cdab")
        self.hold(True, ("cap", str(SQUARE), ((0, 1), (1, 1), (2, 1), (1, 1))), "aaaa")
        self.hold(False, ("cap", str(SQUARE), ((0, 1), (1, 1), (1, 1), (1, 1))), "aaaa")
        self.hold(True, ("radius", str(CLOCK), (3, 1)), "bd")
        self.hold(False, ("radius", str(CLOCK), (6, 2)), "bd")
        self.hold(False, ("radius", str(CLOCK), (3, 1)), "cd")
        self.hold(False, ("radius", str(CLOCK), (3, 1)), "db")
        self.hold(False, ("radius", "ab\nab 2", (True, 1)), "ab")
        self.hold(False, ("radius", str(CLOCK), Likeable()), "bd")

    def test_alike_tables(self):
        self.hold(True, ("alike", "ab\nab 3", "yz\nyz 3"), "zy")
        self.hold(True, ("alike", "ab\nab 3", "yz\nyz 3"), "yz")
        self.hold(False, ("alike", "ab\nab 3", "yz\nyz 4"), "yz")
        self.hold(False, ("alike", "ab\nab 3", str(LOOSE)), "ab")
        self.hold(False, ("alike", str(LOOSE), "ab\nab 9"), "ab")
        self.hold(False, ("alike", "ab\nab 0", "yz\nyz 0"), "yy")
        self.hold(True, ("unlike", "ab\nab 3", "yz\nyz 4"), ())
        self.hold(True, ("unlike", "ab\nab 3", str(LOOSE)), ())
        self.hold(False, ("unlike", "ab\nab 3", "yz\nyz 3"), ())

    def test_sheets(self):
        text = "abc\nab 9\nac 2\nbc 3"
        self.hold(True, ("torn", text), ("ab", "acb"))
        self.hold(True, ("torn", text.replace("9", "10")), ("ab", "acacb"))
        self.hold(False, ("torn", text), ("ab", "acacb"))
        self.hold(False, ("torn", text), ("ab", "bca"))
        self.hold(False, ("torn", text), ("ba", "bca"))
        self.hold(False, ("torn", text.replace("2", "?")), ("ab", "acb"))
        self.hold(False, ("torn", text.replace("9", "?")), ("ab", "acb"))
        self.hold(False, ("torn", text.replace("9", "5")), ("ab", "acb"))
        self.hold(False, ("span", text, "ab", 5, 5), ())
        part = "abcd\nab 1\nac 3\nad ?\nbc 2\nbd ?\ncd 3"
        self.hold(True, ("span", part, "ad", 0, 6), ())
        self.hold(True, ("span", part, "ab", 1, 1), ())
        self.hold(False, ("span", part, "ab", True, 1), ())
        self.hold(False, ("span", part, "ad", False, 6), ())
        self.hold(False, ("span", part, "ad", 1, 6), ())
        self.hold(False, ("span", part, "ad", 0, 5), ())
        self.hold(False, ("span", part, "da", 0, 6), ())
        self.hold(True, ("span", "ab\nab ?", "ab", 0, 1000000), ())
        self.hold(False, ("right", part), ())

    def test_clocks_are_rounds(self):
        self.assertTrue(is_clock(CLOCK) and round_orders(CLOCK))
        self.hold(True, *certify_round(CLOCK))


class TestAnyValues(unittest.TestCase):
    def test_any_two_values(self):
        values = odd_values() + [LANE, Web("ab", (("ab", 1),)), "right", ("right",), (("right", str(LANE)),), ["right", str(LANE)]]
        for claim, paper in itertools.product(values, values):
            self.assertIs(False, accepts(claim, paper))

    def test_any_value_in_each_place(self):
        values = odd_values() + [LANE, (Touchy(),), ("a", Touchy()), (("a", Touchy()),), ((Touchy(), 1),), (Likeable(),) * 2, [[]], ((),) * 4]
        done = set()
        for claim, paper in all_certificates():
            if claim[0] in done:
                continue
            done.add(claim[0])
            for value in values:
                self.assertIs(not self.touchy(value) and accepted(claim, value), accepts(claim, value), (claim, value))
                for at in range(len(claim)):
                    told = accepts(claim[:at] + (value,) + claim[at + 1:], paper)
                    self.assertIs(bool, told.__class__)
                    self.assertIs(claim[0] in ("trip", "trips") and at == 2 and self.fits(claim, value), told, (claim, value))
                if isinstance(paper, tuple):
                    for at in range(len(paper)):
                        other = paper[:at] + (value,) + paper[at + 1:]
                        self.assertIs(not self.touchy(value) and accepted(claim, other), accepts(claim, other), (claim, value))

    def test_values_at_any_depth(self):
        for claim, paper in all_certificates():
            for wrong in (Touchy(), Likeable(), None, [], {}, True, (Touchy(),), b"a"):
                for other in replaced(claim, wrong):
                    self.assertIs(False, accepts(other, paper), (claim, paper))
                for other in replaced(paper, wrong):
                    self.assertIs(False, accepts(claim, other), (claim, paper))

    def touchy(self, value):
        return isinstance(value, (Touchy, Likeable)) or isinstance(value, tuple) and any(self.touchy(part) for part in value)

    def fits(self, claim, value):
        """Whether a number may stand in the place of the one of a claim of trips."""
        if value.__class__ is not int:
            return False
        return value >= claim[2] if claim[0] == "trip" else value <= claim[2]

    def test_claims_of_other_sizes(self):
        for claim, paper in all_certificates():
            self.assertIs(False, accepts(claim + (None,), paper))
            self.assertIs(False, accepts(claim[:-1], paper))
            self.assertIs(False, accepts(list(claim), paper))
            self.assertIs(False, accepts((claim[0] + " ",) + claim[1:], paper))
            self.assertIs(False, accepts((claim[0].upper(),) + claim[1:], paper))
            self.assertIs(False, accepts(paper, claim))

    def test_what_is_passed_stays(self):
        claim, paper = ["right", str(LANE)], [("b", 6)]
        accepts(claim, paper)
        self.assertEqual((["right", str(LANE)], [("b", 6)]), (claim, paper))
