"""Boards, held against the functions of fresh tables that are read of the text."""

import random
import unittest

from nearandfar.boards import Board
from nearandfar.caps import cap_of, middle_cap, under
from nearandfar.errors import (
    InvalidLifts, InvalidNumber, InvalidPair, InvalidParting, InvalidRow, InvalidThing, NotATable, NothingToUndo, NotPossible,
    TooFew, TooMany, UnknownThing, WrongName, WrongValue,
)
from nearandfar.partings import partings, strength
from nearandfar.rests import taken
from nearandfar.tables import Table
from nearandfar.ways import closed, is_right
from tests.support import (
    CLOCK, FORK, KNOT, LANE, LOOSE, NAMED, SQUARE, TWIN, Likeable, Touchy, caught, expect, expect_in_order, given, make,
    no_pairs_of, no_partings_of, no_tables, no_things_of, odd_values, random_tables,
)

OWN = (WrongValue, WrongName, NotPossible)
# What each deed is of a table alone.
DEEDS = {
    "put": lambda table, *told: table.grown(*told),
    "take": lambda table, *told: table.without(*told),
    "change": lambda table, *told: table.changed(*told),
    "close": closed,
    "strip": taken,
    "cover": under,
}


def drawn_deed(chance, table):
    """A deed with arguments, right ones more often than wrong ones."""
    name = chance.choice(list(DEEDS))
    things = table.things
    letter = chance.choice([letter for letter in "abcdefghijklm" if letter not in things] + [things[0], "A", ""])
    if name == "put":
        row = tuple(chance.randint(0, 9) for _ in range(len(table) - (chance.random() < 0.1)))
        return name, (letter, chance.choice((row, row, row, row[:-1] + (-1,), list(row))))
    if name == "take":
        return name, (chance.choice(list(things) + ["z", None]),)
    if name == "change":
        pair = "".join(sorted(chance.sample(things, 2)))
        return name, (chance.choice((pair, pair, pair, pair[::-1])), chance.choice((chance.randint(0, 9), 3, table.far(*pair), -1, True)))
    if name == "close":
        return name, ()
    if name == "strip":
        parting = chance.choice(partings(table))
        return name, (parting, chance.choice((0, 1, strength(table, parting) // 2, strength(table, parting))))
    lifts = chance.choice((middle_cap(table), cap_of(table, things[-1]) if is_right(table) else (), ((1, 1),) * len(table)))
    return name, (letter, lifts)


def outcome(call, *arguments):
    """What a call returns, or the kind of its error and what it tells."""
    error = caught(call, *arguments)
    if error is not None:
        assert isinstance(error, OWN), error
        return error.__class__, list(vars(error).items())
    return call(*arguments)


class Model:
    """A board by the texts of all that it was."""

    def __init__(self, table):
        self.texts = [str(table)]

    def do(self, name, arguments):
        """Do a deed at a fresh table; the error that it raises, as outcome tells it, None if it raises none."""
        if name == "undo":
            if len(self.texts) == 1:
                return NothingToUndo, []
            self.texts.pop()
            return None
        made = outcome(DEEDS[name], Table.told(self.texts[-1]), *arguments)
        if isinstance(made, Table):
            self.texts.append(str(made))
            return None
        return made


def done(test, board, model, name, arguments):
    """Do a deed at a board and at its model, and hold them against one another."""
    expected = model.do(name, arguments)
    error = caught(getattr(board, name), *arguments)
    told = None if error is None else (error.__class__, list(vars(error).items()))
    test.assertEqual(expected, told)
    look(test, board, model)
    return error


def look(test, board, model):
    test.assertEqual((model.texts[-1], len(model.texts) - 1), (str(board.now), board.changes))


class TestDeeds(unittest.TestCase):
    def test_drawn_deeds(self):
        chance = random.Random(161)
        seen = {}
        for table in list(NAMED) + random_tables(162, range(2, 8), 9, 6):
            board, model = Board(table), Model(table)
            look(self, board, model)
            for _ in range(60):
                name, arguments = ("undo", ()) if chance.random() < 0.2 else drawn_deed(chance, board.now)
                error = done(self, board, model, name, arguments)
                seen.setdefault((name, error.__class__), 0)
                seen[name, error.__class__] += 1
            while model.texts[1:]:
                self.assertIsNone(done(self, board, model, "undo", ()))
            self.assertEqual(table, board.now)
            expect(self, NothingToUndo, {}, board.undo)
        for name, error in (
            ("put", InvalidThing), ("put", InvalidRow), ("put", TooMany), ("take", UnknownThing), ("take", TooFew), ("change", InvalidPair),
            ("change", InvalidNumber), ("strip", InvalidNumber), ("cover", InvalidLifts), ("cover", TooMany), ("undo", NothingToUndo),
        ):
            self.assertIn((name, error), seen)
        self.assertTrue(all(seen[name, None.__class__] > 20 for name in list(DEEDS) + ["undo"]), seen)

    def test_by_name(self):
        board = Board(table=SQUARE)
        self.assertIsNone(board.put(row=(3, 3, 3, 3), letter="e"))
        self.assertIsNone(board.take(thing="e"))
        self.assertIsNone(board.change(distance=2, pair="ab"))
        self.assertIsNone(board.undo())
        self.assertIsNone(board.strip(by=1, parting="cd"))
        self.assertEqual(taken(SQUARE, "cd", 1), board.now)
        board.undo()
        self.assertIsNone(board.cover(lifts=((1, 1),) * 4, letter="z"))
        self.assertEqual(under(SQUARE, "z", ((1, 1),) * 4), board.now)
        self.assertIsNone(board.close())
        self.assertEqual(4, board.changes)

    def test_changes_by_which_nothing_is_other(self):
        board = Board(LANE)
        for deed, told in ((board.close, ()), (board.change, ("ab", 1)), (board.strip, ("d", 0))):
            deed(*told)
            self.assertEqual(LANE, board.now)
        self.assertEqual(3, board.changes)
        board.change("ab", 0)
        for left in (3, 2, 1, 0):
            board.undo()
            self.assertEqual((LANE, left), (board.now, board.changes))
        expect(self, NothingToUndo, {}, board.undo)
        self.assertEqual((LANE, 0), (board.now, board.changes))

    def test_errors(self):
        expect_in_order(self, Board, {"table": LANE}, {"table": given(NotATable, no_tables() + [Board(LANE)])})
        board = Board(SQUARE)
        letters = given(InvalidThing, odd_values() + ["a", "d", "ab", "zz", "Z", 1])
        rows = [(value, InvalidRow, {"index": None}) for value in odd_values() if not isinstance(value, tuple)]
        rows += [((1, 1, True, 1), InvalidRow, {"index": 2}), ((1,) * 5, InvalidRow, {"index": 4}), ((1,), InvalidRow, {"index": 1})]
        numbers = given(InvalidNumber, odd_values() + [-1, 1000001, "1"])
        pairs, partings_ = given(InvalidPair, no_pairs_of("abcd")), given(InvalidParting, no_partings_of("abcd"))
        lifts = given(InvalidLifts, odd_values() + [((2, 1),) * 4, ((1, 1),) * 3, ((True, 1),) * 4, [(1, 1)] * 4])
        # Each call that is right is left out: the board stays as it is.
        for name, right, wrong in (
            ("put", {"letter": "e", "row": (1, 1, 1, 1)}, {"letter": letters, "row": rows}),
            ("take", {"thing": "a"}, {"thing": given(UnknownThing, no_things_of("abcd"))}),
            ("change", {"pair": "ab", "distance": 1}, {"pair": pairs, "distance": numbers}),
            ("strip", {"parting": "cd", "by": 1}, {"parting": partings_, "by": numbers + given(InvalidNumber, [2])}),
            ("cover", {"letter": "e", "lifts": ((1, 1),) * 4}, {"letter": letters, "lifts": lifts}),
        ):
            expect_in_order(self, getattr(board, name), right, wrong)
        self.assertEqual((SQUARE, 0), (board.now, board.changes))

    def test_equal_to_itself_alone(self):
        board = Board(LANE)
        self.assertIs(True, board == board)
        self.assertIs(False, board != board)
        for other in odd_values() + [Board(LANE), LANE, str(LANE), Likeable(), Touchy(), board.trial()]:
            self.assertIs(False, board == other)
            self.assertIs(True, board != other)
        self.assertIs(True, board in (LANE, board))
        self.assertIs(True, bool(board))

    def test_boards_have_nothing_in_common(self):
        one, two = Board(LANE), Board(LANE)
        one.change("ab", 5)
        self.assertEqual((LANE, 0), (two.now, two.changes))
        self.assertEqual(1, LANE.far("a", "b"))


class Stop(Exception):
    pass


class Halt(BaseException):
    pass


class TestTrials(unittest.TestCase):
    def test_a_trial_that_ends(self):
        board = Board(LOOSE)
        with board.trial() as held:
            self.assertIs(board, held)
            board.close()
            held.put("d", (1, 1, 4))
        self.assertEqual((closed(LOOSE).grown("d", (1, 1, 4)), 2), (board.now, board.changes))
        board.undo()
        self.assertEqual((closed(LOOSE), 1), (board.now, board.changes))

    def test_a_trial_that_ends_with_an_exception(self):
        for kind in (Stop, ValueError, KeyError, Halt, KeyboardInterrupt, GeneratorExit, StopIteration):
            board = Board(LOOSE)
            board.close()
            with self.assertRaises(kind) as held:
                with board.trial():
                    board.put("d", (1, 1, 4))
                    board.undo()
                    board.undo()
                    board.change("ab", 7)
                    board.change("ab", 8)
                    board.change("ab", 9)
                    raise kind("why")
            self.assertEqual(("why",), held.exception.args)
            self.assertEqual((closed(LOOSE), 1), (board.now, board.changes))
            board.undo()
            self.assertEqual((LOOSE, 0), (board.now, board.changes))

    def test_errors_of_the_board(self):
        board = Board(LOOSE)
        with self.assertRaises(UnknownThing):
            with board.trial():
                board.close()
                board.take("z")
        self.assertEqual((LOOSE, 0), (board.now, board.changes))
        with board.trial():
            board.close()
            self.assertRaises(UnknownThing, board.take, "z")
        self.assertEqual((closed(LOOSE), 1), (board.now, board.changes))

    def test_a_call_alone(self):
        board = Board(LOOSE)
        trial = board.trial()
        board.close()
        board.trial()
        self.assertEqual((closed(LOOSE), 1), (board.now, board.changes))
        # It is counted from where the rows begin.
        with self.assertRaises(Stop):
            with trial:
                board.change("ab", 1)
                raise Stop()
        self.assertEqual((closed(LOOSE), 1), (board.now, board.changes))
        with trial:
            board.change("ab", 1)
        self.assertEqual(2, board.changes)

    def test_the_same_trial_within_itself(self):
        board = Board(LOOSE)
        trial = board.trial()
        with self.assertRaises(Stop):
            with trial:
                board.change("ab", 1)
                with self.assertRaises(Halt):
                    with trial:
                        board.change("ab", 2)
                        raise Halt()
                self.assertEqual((1, 1), (board.now.far("a", "b"), board.changes))
                with trial:
                    board.change("ab", 3)
                self.assertEqual(2, board.changes)
                raise Stop()
        self.assertEqual((LOOSE, 0), (board.now, board.changes))

    def test_tried(self):
        board = Board(LOOSE)
        answer = object()
        self.assertIs(answer, board.tried(lambda one: (one.close(), answer)[1]))
        self.assertIs(board, board.tried(action=lambda one: one))
        self.assertIsNone(board.tried(lambda one: one.undo()))
        self.assertEqual((LOOSE, 0), (board.now, board.changes))

        def fail(one):
            one.close()
            one.close()
            raise Stop("why")

        with self.assertRaises(Stop) as held:
            board.tried(fail)
        self.assertEqual((("why",), LOOSE, 0), (held.exception.args, board.now, board.changes))

    def test_drawn_trials(self):
        chance = random.Random(163)
        for table in (LANE, FORK, SQUARE, KNOT, CLOCK, LOOSE, TWIN, make("ab", lambda x, y: 3)) * 8:
            board, model = Board(table), Model(table)
            self.rows(chance, board, model, 0)

    def rows(self, chance, board, model, depth):
        for _ in range(chance.randint(1, 6)):
            kind = chance.random()
            if kind < 0.25 and depth < 4:
                before = list(model.texts)
                fails = chance.random() < 0.5
                error = caught(self.within, chance, board, model, depth, fails)
                self.assertIs(Stop if fails else None.__class__, error.__class__)
                if fails:
                    model.texts = before
                look(self, board, model)
            else:
                name, arguments = ("undo", ()) if kind < 0.45 else drawn_deed(chance, board.now)
                done(self, board, model, name, arguments)

    def within(self, chance, board, model, depth, fails):
        if chance.random() < 0.5:
            with board.trial():
                self.rows(chance, board, model, depth + 1)
                if fails:
                    raise Stop()
        else:
            board.tried(lambda one: self.rows_and_end(chance, one, model, depth, fails))

    def rows_and_end(self, chance, board, model, depth, fails):
        self.rows(chance, board, model, depth + 1)
        if fails:
            raise Stop()
