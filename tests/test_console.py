"""Consoles, each form of command held against the function that it asks."""

import random
import unittest

from nearandfar.boards import Board
from nearandfar.caps import radius
from nearandfar.clocks import groups, is_clock, level, levels
from nearandfar.console import Console
from nearandfar.crowds import crowd
from nearandfar.errors import (
    InvalidCommand, InvalidNumber, InvalidPair, InvalidParting, InvalidPile, InvalidRow, InvalidThing, HasTwins, NoTree, NotATable,
    NothingToUndo, NotRight, TooFew, TooMany, UnknownThing, Unlike,
)
from nearandfar.exchanges import classes, exchanges
from nearandfar.lines import is_line, posts
from nearandfar.moves import best_places, cost
from nearandfar.needed import needed_pairs
from nearandfar.partings import clear, partings, strength
from nearandfar.rests import is_sum
from nearandfar.rounds import round_orders
from nearandfar.spanning import least_sum
from nearandfar.trees import is_tree, pieces
from nearandfar.trips import shortest_trips
from nearandfar.ways import between, closed, is_right, least_way, long_three, spread, way_length
from tests.support import (
    CHAIN, CLOCK, FORK, KNOT, LANE, LOOSE, NAMED, SQUARE, TWIN, Likeable, Touchy, caught, expect, expect_in_order, far, given, make,
    many_tables, no_tables, odd_values,
)
from tests.test_boards import OWN, drawn_deed

RIGHT = [
    "put e 1 1 1 1", "take a", "change ab 9", "close", "strip cd 1", "undo", "right", "tree", "sum", "line", "clock", "crowd", "far a b",
    "way a c", "between a c", "needed", "orders", "trips", "levels", "groups 1", "classes", "posts", "pieces", "clear", "least",
    "strength bc", "level ab", "cost 1,0,1,0 0,1,0,1", "places 1,1,0,0", "radius", "exchanges",
]


def joined(told):
    return " ".join(str(one) for one in told) if told else "none"


def numbered(told):
    return joined([f"{lot}:{number}" for lot, number in told])


def yes(told):
    return "yes" if told else "no"


# What each question of one word asks.
WORDS = {
    "right": lambda table: yes(is_right(table)),
    "tree": lambda table: yes(is_tree(table)),
    "sum": lambda table: yes(is_sum(table)),
    "line": lambda table: yes(is_line(table)),
    "clock": lambda table: yes(is_clock(table)),
    "crowd": lambda table: yes(crowd(table) is not None),
    "needed": lambda table: joined(needed_pairs(table)),
    "orders": lambda table: joined(round_orders(table)),
    "trips": lambda table: joined(shortest_trips(table)),
    "levels": lambda table: joined(levels(table)),
    "classes": lambda table: joined(classes(table)),
    "posts": lambda table: joined(posts(table)),
    "pieces": lambda table: numbered(pieces(table)),
    "clear": lambda table: numbered(clear(table)),
    "least": lambda table: str(least_sum(table)),
    "radius": lambda table: "/".join(str(number) for number in radius(table)),
    "exchanges": lambda table: str(len(exchanges(table))),
}


def some_tables():
    tables = many_tables()
    return [table for table in tables if len(table) < 6] + [table for table in tables if len(table) > 5][::5]


class TestQuestions(unittest.TestCase):
    def hold(self, console, command, call, *arguments):
        """The console answers as a function does, or raises the error that it raises."""
        before = console.board.now, console.board.changes
        error = caught(call, *arguments)
        if error is None:
            answer = call(*arguments)
            self.assertEqual((str, answer), (answer.__class__, console.say(command)))
            self.assertEqual(answer, console.say(command=command))
        else:
            self.assertIsInstance(error, OWN)
            expect(self, error.__class__, vars(error), console.say, command)
        self.assertEqual(before, (console.board.now, console.board.changes))

    def test_words(self):
        for table in some_tables():
            console = Console(table)
            for word, call in WORDS.items():
                self.hold(console, word, call, table)

    def test_things_and_pairs(self):
        for table in some_tables():
            console = Console(table)
            for x in table.things + "~z"[1:]:
                for y in table.things[:3] + "z":
                    self.hold(console, f"far {x} {y}", lambda: str(table.far(x, y)))
                    self.hold(console, f"between {x} {y}", lambda: joined(between(table, x, y)))
                    if caught(table.far, x, y) is not None:
                        expect(self, UnknownThing, {"given": "z"}, console.say, f"way {x} {y}")
                    elif x == y:
                        self.assertEqual(x, console.say(f"way {x} {y}"))
                    else:
                        way = console.say(f"way {x} {y}")
                        self.assertEqual(x + y, way[0] + way[-1])
                        self.assertEqual(way_length(table, least_way(table, x, y)), way_length(table, way))
                    self.hold(console, f"level {x}{y}", lambda: str(level(table, x + y)))
            for lot in list(partings(table)[:6]) + [table.things[0], "z", "aa", table.things[:6]]:
                self.hold(console, f"strength {lot}", lambda: str(strength(table, lot)))
            for number in (0, 1, 2, 5, 500000, 1000000, 1000001, 9999999):
                self.hold(console, f"groups {number}", lambda: joined(groups(table, number)))

    def test_piles(self):
        chance = random.Random(201)
        for table in some_tables():
            console = Console(table)
            for most in (3, 9, 61):
                first = tuple(chance.randint(0, most) for _ in table.things)
                second = tuple(chance.sample(first, len(first))) if chance.random() < 0.8 else first[1:] + (0,)
                words = ",".join(map(str, first)), ",".join(map(str, second))
                self.hold(console, f"cost {words[0]} {words[1]}", lambda: str(cost(table, first, second)))
                self.hold(console, f"places {words[0]}", lambda: joined(best_places(table, first)))
        console = Console(LANE)
        expect(self, Unlike, {"given": -1}, console.say, "cost 1,0,0,0 0,0,0,2")
        expect(self, InvalidPile, {"given": (1, 0)}, console.say, "cost 1,0 0,1")
        expect(self, InvalidPile, {"given": (0, 9999999)}, console.say, "cost 1,0,0,0 0,9999999")
        expect(self, InvalidPile, {"given": (1, 1, 1, 1, 1, 1, 61)}, console.say, "places 1,1,1,1,1,1,61")

    def test_answers(self):
        for table, command, answer in (
            (LANE, "right", "yes"), (LOOSE, "right", "no"), (LANE, "tree", "yes"), (KNOT, "tree", "no"), (SQUARE, "sum", "yes"), (KNOT, "sum", "no"),
            (TWIN, "line", "yes"), (SQUARE, "line", "no"), (CLOCK, "clock", "yes"), (LANE, "clock", "no"), (SQUARE, "crowd", "yes"),
            (KNOT, "crowd", "no"), (LANE, "far b d", "5"), (LANE, "far d d", "0"), (LOOSE, "way a b", "acb"), (LOOSE, "way b b", "b"),
            (SQUARE, "between c a", "b d"), (FORK, "between a e", "none"), (LANE, "between a a", "none"), (LANE, "needed", "ab bc cd"),
            (LANE, "orders", "abcd abdc"), (KNOT, "orders", "none"), (LANE, "trips", "abcd abdc"), (CLOCK, "levels", "2 4 6"),
            (CLOCK, "groups 2", "ab c d"), (CLOCK, "groups 1000000", "abcd"), (KNOT, "classes", "ab cde"), (LANE, "posts", "0 1 3 6"),
            (SQUARE, "posts", "none"), (make("abc", lambda x, y: 0), "posts", "0 0 0"), (LANE, "pieces", "bcd:2 cd:4 d:6"),
            (make("abc", lambda x, y: 0), "pieces", "none"), (SQUARE, "clear", "bc:2 cd:2"), (KNOT, "clear", "none"), (LANE, "least", "6"),
            (SQUARE, "strength bd", "0"), (LANE, "level ad", "3"), (LANE, "cost 2,0,0,1 0,1,1,1", "4"), (LANE, "places 1,1,1,1", "b c"),
            (CLOCK, "radius", "3/1"), (LOOSE, "radius", "9/2"), (make("ab", lambda x, y: 0), "radius", "0/1"), (KNOT, "exchanges", "12"),
        ):
            self.assertEqual(answer, Console(table).say(command), command)

    def test_errors_of_what_is_called(self):
        for table, command, error, told in (
            (LOOSE, "needed", NotRight, {"given": long_three(LOOSE)}), (TWIN, "needed", HasTwins, {"given": "ab"}),
            (LOOSE, "orders", NotRight, {"given": long_three(LOOSE)}), (KNOT, "pieces", NoTree, {}), (CHAIN, "crowd", TooMany, {"given": 7}),
            (LANE, "far z a", UnknownThing, {"given": "z"}), (LANE, "far a y", UnknownThing, {"given": "y"}), (LANE, "level ba", InvalidPair, {"given": "ba"}),
            (LANE, "level aa", InvalidPair, {"given": "aa"}), (LANE, "strength a", InvalidParting, {"given": "a"}),
            (LANE, "strength dc", InvalidParting, {"given": "dc"}), (LANE, "groups 9999999", InvalidNumber, {"given": 9999999}),
            (LANE, "undo", NothingToUndo, {}), (LANE, "take z", UnknownThing, {"given": "z"}),
        ):
            expect(self, error, told, Console(table).say, command)


class TestDeeds(unittest.TestCase):
    def test_drawn_deeds(self):
        chance = random.Random(203)
        done = {}
        for table in NAMED * 3:
            console, board = Console(table), Board(table)
            for _ in range(40):
                name, told = ("undo", ()) if chance.random() < 0.2 else drawn_deed(chance, board.now)
                words = [" ".join(map(str, word)) if isinstance(word, (tuple, list)) else str(word) for word in told]
                if name == "cover" or any(word in ("-1", "True", "None", "A", "") or "-1" in word for word in words):
                    continue
                told = tuple(tuple(word) if isinstance(word, list) else word for word in told)
                if name == "put" and not 2 <= len(told[1]) <= 7:
                    continue
                error, command = caught(getattr(board, name), *told), " ".join([name] + words)
                if error is None:
                    self.assertEqual("ok", console.say(command))
                else:
                    expect(self, error.__class__, vars(error), console.say, command)
                done.setdefault((name, error is None), 0)
                done[name, error is None] += 1
                self.assertEqual((board.now, board.changes), (console.board.now, console.board.changes))
        for name in ("put", "take", "change", "close", "strip", "undo"):
            self.assertGreater(done[name, True], 10, done)

    def test_the_board(self):
        console = Console(table=LANE)
        board = console.board
        self.assertIsInstance(board, Board)
        self.assertEqual("ok", console.say("change ad 9"))
        self.assertEqual((9, 1), (far(board.now, "a", "d"), board.changes))
        board.close()
        self.assertEqual("6", console.say("far a d"))
        self.assertEqual(("ok", "ok"), (console.say("undo"), console.say("undo")))
        self.assertEqual((LANE, board), (board.now, console.board))
        expect(self, NothingToUndo, {}, console.say, "undo")
        with board.trial():
            console.say("put z 1 2 3 4")
            self.assertEqual("abcdz", board.now.things)
            console.say("take a")
        self.assertEqual((2, closed(board.now) == board.now), (board.changes, console.say("right") == "yes"))

    def test_refused_deeds(self):
        console = Console(SQUARE)
        for command, error, told in (
            ("put a 1 1 1 1", InvalidThing, {"given": "a"}), ("put e 1 1 1", InvalidRow, {"index": 3}), ("put e 1 1 1 1 1", InvalidRow, {"index": 4}),
            ("put e 1 1 1000001 1", InvalidRow, {"index": 2}), ("put e 9999999 1", InvalidRow, {"index": 0}), ("change ba 3", InvalidPair, {"given": "ba"}),
            ("change ab 1000001", InvalidNumber, {"given": 1000001}), ("change az 3", InvalidPair, {"given": "az"}), ("change bb 3", InvalidPair, {"given": "bb"}),
            ("strip bd 1", InvalidNumber, {"given": 1}), ("strip a 1", InvalidParting, {"given": "a"}), ("strip zzzzzz 1", InvalidParting, {"given": "zzzzzz"}),
            ("take e", UnknownThing, {"given": "e"}),
        ):
            expect(self, error, told, console.say, command)
        self.assertEqual((SQUARE, 0), (console.board.now, console.board.changes))
        full = Console(CHAIN)
        expect(self, TooMany, {"given": 8}, full.say, "put z 1 2 3 4 5 6 7")
        expect(self, TooFew, {"given": 1}, Console(make("ab", lambda x, y: 1)).say, "take a")
        self.assertEqual((100, 0), (spread(full.board.now), full.board.changes))


class TestForms(unittest.TestCase):
    def test_right_forms(self):
        for command in RIGHT:
            error = caught(Console(SQUARE).say, command)
            self.assertNotIsInstance(error, InvalidCommand, command)
            self.assertIs(error is None, command not in ("undo", "pieces"), command)
        for number in ("0", "7", "10", "999999", "1000000", "9999999"):
            for command in (f"change ab {number}", f"groups {number}", f"strip b {number}", f"put e {number} 1", f"places {number},0"):
                self.assertNotIsInstance(caught(Console(SQUARE).say, command), InvalidCommand, command)
        for lot in ("a", "ba", "zz", "abc", "abcd", "abcde", "zyxwvu"):
            self.assertNotIsInstance(caught(Console(SQUARE).say, f"strength {lot}"), InvalidCommand)

    def test_wrong_forms(self):
        wrong = odd_values() + [RIGHT, tuple(RIGHT), b"right", ("right",), ["far", "a", "b"], 7]
        for command in RIGHT:
            wrong += [
                command + " ", " " + command, command + "  ", command.upper(), command.capitalize(), command + " a", command + " 1", command + "\n",
                command + "x", "x" + command, command[1:], command.replace(" ", "  ", 1) + " ", command + "?", command.encode(), [command],
            ]
            words = command.split(" ")
            if len(words) > 1:
                wrong += [command.replace(" ", "  "), command.replace(" ", "\n"), command.replace(" ", ""), words[0], words[0] + " ", command.replace(" ", ",")]
                wrong += [" ".join(words[:at] + words[at + 1:]) for at in range(1, len(words)) if words[0] != "put" or at == 1]
                wrong += [" ".join(words[:at] + [words[at].upper()] + words[at + 1:]) for at in range(len(words)) if words[at].isalpha()]
            else:
                wrong += [command + " " + command, command + " a b", command + " 0"]
        right = RIGHT + ["put e 1 1 1 1 1", "strength bcx"]
        wrong = [command for command in wrong if not isinstance(command, str) or command not in right]
        for number in ("00", "01", "007", "-1", "+1", "1.0", "1e3", "1_0", "10000000", "00000001", "12345678", "", "a", "True", "0x1", " 1", "1 ", "1,", "?"):
            wrong += [f"change ab {number}", f"groups {number}", f"strip b {number}", f"put e {number} 1", f"put e 1 {number}"]
            wrong += [f"places {number},0", f"places 0,{number}", f"cost {number},0 1,1", f"cost 1,1 0,{number}"]
        wrong += [
            "put e 1", "put e", "put", "put ee 1 1 1 1", "put E 1 1 1 1", "put e 1 1 1 1 1 1 1 1", "put e 1,1,1,1", "put 1 1 1 1 1", "put e  1 1 1 1",
            "put e 1  1 1 1", "put e 1 1 1 1 ", "put  1 1 1 1", "take ab", "take", "take 1", "take A", "take  a", "change abc 3", "change a 3", "change ab",
            "change ab 3 3", "change aB 3", "change a1 3", "change 3 ab", "strip abcdefg 1", "strip 1 b", "strip b", "strip  1", "strip B 1",
            "far a", "far ab", "far a b c", "far a bc", "far A b", "far a 1", "between a", "way a", "groups", "groups a", "level a", "level abc",
            "strength", "strength abcdefg", "strength 1", "cost 1,0", "cost 1,0 0,1 1,1", "cost 1 0", "cost 1,0, 0,1", "cost ,1,0 0,1", "cost 1,,0 0,1",
            "cost 1,0,0,0,0,0,0,0 0,1", "cost 1;0 0;1", "cost 1, 0 0,1", "places 1", "places", "places 1,1,1,1,1,1,1,1", "places 1,1 1,1", "places 1,a",
            "cover z 1", "now", "changes", "trial", "help", "none", "ok", "yes", "star", "rights", "undo 1", "close a", "exchanges a", "radius 3/1",
        ]
        console = Console(SQUARE)
        expect_in_order(self, console.say, {"command": "right"}, {"command": given(InvalidCommand, wrong)})
        self.assertEqual((SQUARE, 0), (console.board.now, console.board.changes))

    def test_consoles(self):
        expect_in_order(self, Console, {"table": LANE}, {"table": given(NotATable, no_tables() + [Board(LANE), Console(LANE)])})
        console = Console(LANE)
        for other in odd_values() + [Console(LANE), LANE, console.board, Likeable(), Touchy()]:
            self.assertIs(False, console == other)
        self.assertIs(True, bool(console))
