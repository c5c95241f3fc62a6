"""Web, and shortest roads held against going through all roads."""

import unittest

from nearandfar.errors import (
    InvalidPair, InvalidText, InvalidThings, InvalidTie, InvalidTies, NotAWeb, NotJoined, TooFar,
)
from nearandfar.tables import Table
from nearandfar.ways import is_right, twins
from nearandfar.webs import Web, needless_ties, shortest_roads, users
from tests.support import (
    FORK, KNOT, LANE, SQUARE, Likeable, Touchy, caught, expect, expect_in_order, given, make, no_pairs_of, odd_values, pairs,
    random_web, tree_web,
)

FORKWEB = Web.told("abcde\nPQ 1\nPa 1\nPb 2\nQR 2\nQc 2\nRd 1\nRe 3")
RING = Web("abcd", (("ab", 1), ("ac", 2), ("ad", 1), ("bc", 1), ("cd", 1)))
STAR = Web("abcd", (("Ha", 1), ("Hb", 1), ("Hc", 1), ("Hd", 1)))
# A hidden place with one tie, a chain of two such, and one that lies on a way round.
TAILS = Web("abc", (("AB", 1), ("Aa", 1), ("Cb", 2), ("Da", 1), ("Db", 1), ("ab", 2), ("bc", 3)))
SMALL = Web("xy", (("xy", 1),))
LONG = Web("abc", (("ab", 1000000), ("ac", 1000000), ("bc", 1)))
SIX = Web("ab", (("Aa", 1), ("Bb", 1), ("Ca", 1), ("Db", 1), ("Ea", 1), ("Zb", 1), ("ab", 1)))
ALL_TIED = Web("abc", tuple((pair, 1) for pair in pairs("ABCDEFabc")))


def many_webs():
    webs = [FORKWEB, RING, STAR, TAILS, SMALL, LONG, SIX]
    webs += [tree_web(seed, 2 + seed % 5, seed % 4) for seed in range(8)]
    webs += [random_web(seed, 2 + seed % 4, seed % 4, 1 + seed % 6) for seed in range(16)]
    return webs


WEBS = many_webs()


def no_webs():
    return odd_values() + [LANE, str(RING), RING.ties, "ab", RING.table(), Web]


def no_ties_of(web):
    """Values that are no PAIR of a tie of a web."""
    first = web.ties[0]
    return odd_values() + [first, list(first), first[0][::-1], first[0][0], first[0] + "z", tuple(first[0]), 1, web.things[0] * 2, "YZ"]


def all_roads(web):
    """A dict from each two unlike places to the list of all roads between them, with their lengths."""
    steps = {}
    for (one, two), length in web.ties:
        steps.setdefault(one, {})[two] = length
        steps.setdefault(two, {})[one] = length
    found = {}
    growing = [(place, 0) for place in steps]
    while growing:
        longer = []
        for road, length in growing:
            for place, step in steps[road[-1]].items():
                if place not in road:
                    longer.append((road + place, length + step))
                    found.setdefault(road[0] + place, []).append((road + place, length + step))
        growing = longer
    return found


def least_roads(web, pair):
    roads = all_roads(web)[pair]
    least = min(length for _, length in roads)
    return least, sorted(road for road, length in roads if length == least)


def goes_over(road, tie):
    return any(sorted(step) == sorted(tie) for step in zip(road, road[1:]))


class TestMaking(unittest.TestCase):
    def test_right_webs(self):
        self.assertEqual(("abcde", "PQR", 7), (FORKWEB.things, FORKWEB.hidden, len(FORKWEB)))
        self.assertEqual(("", "ABCDEZ", "ABCD"), (RING.hidden, SIX.hidden, TAILS.hidden))
        self.assertEqual(((("xy", 1),), 1, "xy\nxy 1"), (SMALL.ties, len(SMALL), str(SMALL)))
        self.assertEqual(SMALL, Web(ties=(("xy", 1),), things="xy"))
        self.assertEqual(36, len(ALL_TIED))
        for length in (1, 1000000):
            self.assertEqual(length, Web("ab", (("ab", length),)).table().far("a", "b"))

    def test_invalid_things(self):
        for things in odd_values() + ["a", "abcdefgh", "ba", "AB", "Pa", "abb", ("a", "b"), None, 5]:
            expect(self, InvalidThings, {"given": things}, Web, things, (("ab", 1),))
            expect(self, InvalidThings, {"given": things}, Web, ties=None, things=things)

    def test_ties_that_are_no_tuple(self):
        for ties in (None, list(RING.ties), dict(RING.ties), "ab", 3, Touchy(), {("ab", 1)}, RING):
            expect(self, InvalidTies, {"index": None}, Web, "abcd", ties)
            expect(self, InvalidTies, {"index": None}, Web, ties=ties, things="abcd")

    def test_first_wrong_tie(self):
        lengths = [0, -1, 1000001, True, False, "1", None, (1,), 10 ** 90, Touchy(), Likeable()]
        for at in range(5):
            pair, length = RING.ties[at]
            wrong = [(pair, other) for other in lengths] + [
                [pair, length], (pair,), (pair, length, length), (), pair, None, Touchy(), Likeable(), (Touchy(), 1), (Likeable(), 1),
                (pair[::-1], 1), (pair[0], 1), (pair[0] * 2, 1), (pair + "d", 1), (pair.upper()[::-1], 1), (tuple(pair), 1),
                (pair[0] + "e", 1), (pair[0] + "z", 1), ("a1", 1), ("1a", 1), ("aP", 1), (b"ab", 1), (1, pair), ("", 1), (pair + " ", 1),
                ("~a", 1),
            ]
            for tie in wrong:
                ties = RING.ties[:at] + (tie,) + RING.ties[at + 1:]
                expect(self, InvalidTies, {"index": at}, Web, "abcd", ties)
                expect(self, InvalidTies, {"index": at}, Web, "abcd", RING.ties[:at] + (tie,))
                expect(self, InvalidTies, {"index": at}, Web, "abcd", RING.ties[:at] + (tie, None, None))

    def test_not_greater_than_the_one_ahead(self):
        expect(self, InvalidTies, {"index": 1}, Web, "abc", (("bc", 1), ("ab", 1), ("ac", 1)))
        expect(self, InvalidTies, {"index": 2}, Web, "abc", (("ab", 1), ("bc", 1), ("bc", 2)))
        expect(self, InvalidTies, {"index": 2}, Web, "abc", (("Pa", 1), ("ab", 1), ("Pb", 2), ("bc", 1)))

    def test_seventh_hidden_place(self):
        ties = SIX.ties[:5] + (("Fa", 1),) + SIX.ties[5:]
        expect(self, InvalidTies, {"index": 6}, Web, "ab", ties)
        expect(self, InvalidTies, {"index": 3}, Web, "ab", (("AB", 1), ("CD", 1), ("EF", 1), ("GH", 1), ("ab", 1)))
        expect(self, InvalidTies, {"index": 3}, Web, "ab", (("AB", 1), ("CD", 1), ("EF", 1), ("Ga", 1), None))
        # Six are no fault, even if the web does not hang together.
        expect(self, NotJoined, {"given": "A"}, Web, "ab", (("AB", 1), ("CD", 1), ("EF", 1), ("ab", 1)))

    def test_not_joined(self):
        cases = [
            ("abc", (), "b"), ("abc", (("ab", 1),), "c"), ("abc", (("bc", 1),), "b"), ("abc", (("Pa", 1), ("ab", 1)), "c"),
            ("abc", (("PQ", 1), ("ab", 1)), "P"), ("abc", (("Qb", 1), ("Rc", 1), ("ac", 1)), "Q"),
            ("abcd", (("Aa", 1), ("Zd", 1), ("ab", 1), ("ac", 1)), "Z"), ("abcd", (("ab", 1), ("cd", 1)), "c"),
            ("abc", (("XY", 1), ("ab", 1000000), ("bc", 1)), "X"),
        ]
        for things, ties, place in cases:
            expect(self, NotJoined, {"given": place}, Web, things, ties)
            expect(self, NotJoined, {"given": place}, Web, ties=ties, things=things)

    def test_too_far(self):
        ties = (("ab", 1000000), ("bc", 1), ("cd", 1))
        expect(self, TooFar, {"given": "ac"}, Web, "abcd", ties)
        expect(self, TooFar, {"given": "ac"}, Web, ties=ties, things="abcd")
        expect(self, TooFar, {"given": "ab"}, Web, "abc", (("Pa", 500000), ("Pb", 500001), ("Pc", 1)))
        expect(self, TooFar, {"given": "cd"}, Web, "abcd", (("ab", 1), ("ac", 500000), ("bd", 500000)))
        # It is no fault if hidden places are farther, or if just a longer road is too long.
        self.assertEqual(1, Web("ab", (("Pa", 1000000), ("Qb", 1000000), ("ab", 1))).table().far("a", "b"))
        self.assertEqual(1000000, Web("ab", (("PQ", 1), ("Pa", 1000000), ("Qb", 1), ("ab", 1000000))).table().far("a", "b"))
        self.assertEqual(1000000, LONG.table().far("a", "c"))


class TestTexts(unittest.TestCase):
    def test_the_text_read_again(self):
        for web in WEBS + [ALL_TIED]:
            self.assertEqual("\n".join([web.things] + [f"{pair} {length}" for pair, length in web.ties]), str(web))
            for again in (Web.told(str(web)), Web.told(text=str(web)), web.told(str(web))):
                self.assertEqual(web, again)
                self.assertEqual((web.things, web.ties, web.hidden), (again.things, again.ties, again.hidden))

    def test_other_texts(self):
        text = "abc\nPa 1\nPb 20\nbc 3"
        Web.told(text)
        wrong = [
            text + "\n", "\n" + text, text + " ", " " + text, text.replace("\n", "\n\n"), text.replace(" 1", " 01"),
            text.replace(" 1", " +1"), text.replace(" 1", " 0"), text.replace(" 1", " -1"), text.replace(" 1", "  1"),
            text.replace(" 1", ""), text.replace(" 1", " "), text.replace(" 1", " 1000001"), text.replace(" 1", " x"),
            text.replace("Pa", "aP"), text.replace("Pa", "pa"), text.replace("Pa", "Pe"), text.replace("Pa", "PP"),
            "abc\nPb 20\nPa 1\nbc 3", "abc\nPa 1\nPa 1\nPb 20\nbc 3", "abc\nPa 1\nPb 20", "abc", "ab", "", "abc\n", "ab\nPa 1\nPb 20\nbc 3",
            "abc\nab 1000000\nbc 1", "acb\nab 1\nbc 1", "abc\nQR 1\nab 1\nbc 1", "a\nPa 1", text.replace("\n", "\r\n"), "P\nPa 1",
            "ab\n" + "\n".join(f"{letter}a 1" for letter in "ABCDEFG") + "\nab 1", text.replace(" 1", " \u0661"),
        ]
        for value in wrong + odd_values() + [RING, text.encode(), [text], (text,), 3]:
            expect(self, InvalidText, {"given": value}, Web.told, value)
            expect(self, InvalidText, {"given": value}, Web.told, text=value)


class TestReading(unittest.TestCase):
    def test_properties_cannot_be_set(self):
        for name in ("things", "ties", "hidden"):
            self.assertRaises(AttributeError, setattr, RING, name, "abc")

    def test_equal_exactly_if_the_texts_are(self):
        for one in WEBS:
            for two in WEBS + [Web.told(str(web)) for web in WEBS]:
                self.assertIs(str(one) == str(two), one == two)
                self.assertIs(str(one) != str(two), one != two)

    def test_equal_to_no_other_value(self):
        table = SMALL.table()
        self.assertEqual(str(SMALL), str(table))
        for value in odd_values() + [table, str(SMALL), SMALL.ties, "xy"]:
            self.assertIs(False, SMALL == value)
            self.assertIs(True, SMALL != value)
        self.assertIs(False, table == SMALL)
        self.assertIs(True, table != SMALL)
        self.assertIn(Web.told(str(SMALL)), [None, table, SMALL])
        self.assertNotIn(SMALL, [None, table, str(SMALL)])

    def test_every_web_is_true(self):
        for web in WEBS:
            self.assertTrue(web)

    def test_table(self):
        for web in WEBS:
            table = web.table()
            self.assertEqual(make(web.things, lambda x, y: least_roads(web, x + y)[0]), table)
            self.assertEqual((True, (), Table), (is_right(table), twins(table), table.__class__))
        self.assertEqual((FORK, SQUARE, SQUARE), (FORKWEB.table(), RING.table(), RING.without("ac").table()))
        self.assertEqual(make("abcd", lambda x, y: 2), STAR.table())


class TestWithout(unittest.TestCase):
    def test_each_tie_of_several_webs(self):
        for web in WEBS:
            text = str(web)
            for tie, _ in web.ties:
                ties = tuple(row for row in web.ties if row[0] != tie)
                straight = caught(Web, web.things, ties)
                if straight is None:
                    rest = web.without(tie)
                    self.assertEqual(Web(web.things, ties), rest)
                    self.assertEqual((len(web) - 1, rest), (len(rest), web.without(tie=tie)))
                else:
                    expect(self, straight.__class__, {"given": straight.given}, web.without, tie)
            self.assertEqual(text, str(web))

    def test_a_hidden_place_goes_with_its_one_tie(self):
        self.assertEqual(("ABD", "ACD", 6), (TAILS.without("Cb").hidden, TAILS.without("AB").hidden, len(TAILS.without("AB"))))
        self.assertEqual("CD", TAILS.without("AB").without("Aa").hidden)

    def test_errors(self):
        for web in (RING, FORKWEB):
            expect_in_order(self, web.without, {"tie": web.ties[1][0]}, {"tie": given(InvalidTie, no_ties_of(web) + ["bd"])})
        expect(self, NotJoined, {"given": "A"}, TAILS.without, "Aa")
        expect(self, NotJoined, {"given": "c"}, TAILS.without, "bc")
        expect(self, NotJoined, {"given": "y"}, SMALL.without, tie="xy")
        expect(self, NotJoined, {"given": "Q"}, FORKWEB.without, "PQ")
        expect(self, TooFar, {"given": "ac"}, LONG.without, "ac")
        expect(self, TooFar, {"given": "ab"}, LONG.without, tie="ab")
        expect(self, InvalidTie, {"given": ("ab", 1)}, SMALL.without, ("ab", 1))


class TestRoads(unittest.TestCase):
    def test_against_all_roads(self):
        for web in WEBS:
            for pair in pairs(web.things):
                roads = tuple(least_roads(web, pair)[1])
                self.assertEqual((roads, roads), (shortest_roads(web, pair), shortest_roads(pair=pair, web=web)))

    def test_many_roads(self):
        ties = [("".join(sorted(one + two)), 1) for one in "aBC" for two in "DEF" if one != "a"]
        web = Web("ab", tuple(sorted(ties + [("Ba", 1), ("Ca", 1), ("Db", 1), ("Eb", 1), ("Fb", 1)])))
        self.assertEqual(tuple("a" + one + two + "b" for one in "BC" for two in "DEF"), shortest_roads(web, "ab"))
        self.assertEqual(("ab",), shortest_roads(ALL_TIED, "ab"))

    def test_errors(self):
        for web in (RING, FORKWEB):
            expect_in_order(self, shortest_roads, {"web": web, "pair": "ac"}, {
                "web": given(NotAWeb, no_webs()), "pair": given(InvalidPair, no_pairs_of(web.things) + ["Pa", "PQ", "QR"]),
            })


class TestUsersAndNeedless(unittest.TestCase):
    def test_users_against_all_roads(self):
        for web in WEBS:
            for tie, _ in web.ties:
                found = [pair for pair in pairs(web.things) if all(goes_over(road, tie) for road in least_roads(web, pair)[1])]
                self.assertEqual((tuple(found), tuple(found)), (users(web, tie), users(tie=tie, web=web)))

    def test_needless_ties_each_by_itself(self):
        for web in WEBS + [ALL_TIED]:
            found = []
            for tie, _ in web.ties:
                rows = tuple(row for row in web.ties if row[0] != tie)
                if caught(Web, web.things, rows) is None and Web(web.things, rows).table() == web.table():
                    found.append(tie)
                    self.assertEqual((), users(web, tie))
            self.assertEqual((tuple(found), tuple(found)), (needless_ties(web), needless_ties(web=web)))

    def test_some(self):
        self.assertEqual(("AB", "Cb", "Da", "Db", "ab"), needless_ties(TAILS))
        self.assertEqual((("ab",), ("ac",)), (users(LONG, "ab"), users(LONG, "ac")))
        self.assertEqual(((), ()), (needless_ties(SMALL), needless_ties(Web("ab", (("Pa", 1), ("Pb", 1))))))
        # The tie of a hidden place is no needless one as long as another place hangs on it, though nothing uses it.
        self.assertEqual((), users(TAILS, "Aa"))
        self.assertNotIn("Aa", needless_ties(TAILS))

    def test_errors(self):
        for web in (RING, FORKWEB):
            expect_in_order(self, users, {"web": web, "tie": web.ties[-1][0]}, {
                "web": given(NotAWeb, no_webs()), "tie": given(InvalidTie, no_ties_of(web)),
            })
        expect_in_order(self, needless_ties, {"web": RING}, {"web": given(NotAWeb, no_webs())})
        expect(self, NotAWeb, {"given": KNOT}, users, KNOT, None)
