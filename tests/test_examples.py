"""The examples that the document shows, with just the answers that it shows."""

import unittest

EXAMPLES = {
    "tables": r"""
>>> from nearandfar.tables import Table, added, times
>>> lane = Table("abcd", (("ab", 1), ("ac", 3), ("ad", 6), ("bc", 2), ("bd", 5), ("cd", 3)))
>>> fork = Table.told("abcde\nab 3\nac 4\nad 5\nae 7\nbc 5\nbd 6\nbe 8\ncd 5\nce 7\nde 4")
>>> square = Table.told("abcd\nab 1\nac 2\nad 1\nbc 1\nbd 2\ncd 1")
>>> knot = Table.told("abcde\nab 2\nac 1\nad 1\nae 1\nbc 1\nbd 1\nbe 1\ncd 2\nce 2\nde 2")
>>> clock = Table.told("abcd\nab 2\nac 6\nad 6\nbc 6\nbd 6\ncd 4")
>>> loose, twin = Table.told("abc\nab 9\nac 2\nbc 3"), Table.told("abc\nab 0\nac 4\nbc 4")
>>> [lane.far("d", "b"), knot.far("c", "c"), len(fork), str(lane.without("c")), loose.changed("ab", 5).distances, twin.grown("x", (7, 7, 7)).things]
[5, 0, 5, 'abd\nab 1\nad 6\nbd 5', (('ab', 5), ('ac', 2), ('bc', 3)), 'abcx']
>>> [str(loose.renamed("xcb")), times(twin, 3).far("a", "c"), added(square, square) == times(square, 2), clock.renamed("badc") == clock]
['bcx\nbc 3\nbx 2\ncx 9', 12, True, True]
>>> Table("abc", (("ab", 1), ("bc", 1)))
raises InvalidDistances(index=1)
""",
    "ways": r"""
>>> from nearandfar.ways import long_three, between, closed, count_ways, is_right, least_way, spread, twins, way_length
>>> [way_length(lane, "adb"), is_right(fork), is_right(loose), long_three(loose) in ("acb", "bca"), str(closed(loose)), closed(knot) == knot, least_way(loose, "a", "b"), count_ways(square, "a", "c"), count_ways(lane, "a", "d")]
[11, True, False, True, 'abc\nab 5\nac 2\nbc 3', True, 'acb', 3, 4]
>>> [between(lane, "a", "d"), between(square, "c", "a"), between(fork, "a", "e"), twins(twin), twins(lane), spread(fork), least_way(knot, "b", "b")]
['bc', 'bd', '', ('ab',), (), 8, 'b']
""",
    "webs": r"""
>>> from nearandfar.webs import Web, needless_ties, shortest_roads, users
>>> forkweb = Web.told("abcde\nPQ 1\nPa 1\nPb 2\nQR 2\nQc 2\nRd 1\nRe 3")
>>> [forkweb.table() == fork, forkweb.hidden, len(forkweb), shortest_roads(forkweb, "ad"), users(forkweb, "QR")]
[True, 'PQR', 7, ('aPQRd',), ('ad', 'ae', 'bd', 'be', 'cd', 'ce')]
>>> ring = Web("abcd", (("ab", 1), ("ac", 2), ("ad", 1), ("bc", 1), ("cd", 1)))
>>> [ring.table() == square, shortest_roads(ring, "ac"), needless_ties(ring), users(ring, "ab"), len(ring.without("ac"))]
[True, ('abc', 'ac', 'adc'), ('ac',), ('ab',), 4]
""",
    "needed": r"""
>>> from nearandfar.needed import least_web, makes, needed_pairs
>>> [needed_pairs(lane), needed_pairs(square), len(needed_pairs(fork)), len(needed_pairs(knot))]
[('ab', 'bc', 'cd'), ('ab', 'ad', 'bc', 'cd'), 10, 6]
>>> [str(least_web(lane)), makes(forkweb, fork), makes(least_web(square), square), makes(forkweb, lane)]
['abcd\nab 1\nbc 2\ncd 3', True, True, False]
""",
    "lines": r"""
>>> from nearandfar.lines import bent_three, crooked_four, files, is_line, is_straight, line_lots, longest_files, posts
>>> [is_straight(lane, "abd"), is_straight(fork, "abc"), posts(lane), posts(square), posts(twin), is_line(loose)]
[True, False, (0, 1, 3, 6), None, (0, 0, 4), False]
>>> [crooked_four(square), crooked_four(lane), bent_three(square), bent_three(loose), bent_three(fork), files(lane), files(square), longest_files(Table("abc", (("ab", 2), ("ac", 4), ("bc", 2)))), line_lots(square), line_lots(loose)]
['abcd', None, None, 'abc', 'abc', ('abcd',), ('abc', 'adc', 'bad', 'bcd'), ('abc',), ('abc', 'abd', 'acd', 'bcd'), ('ab', 'ac', 'bc')]
""",
    "trees": r"""
>>> from nearandfar.trees import firm, firmness, from_pieces, is_tree, meeting, odd_four, own, path, pieces, places, tree_length
>>> [pieces(fork), tree_length(fork), meeting(fork, "a", "c", "e"), path(fork, "a", "e"), path(lane, "a", "d"), pieces(lane), is_tree(clock), is_tree(square)]
[(('b', 4), ('bcde', 2), ('c', 4), ('cde', 2), ('d', 2), ('de', 4), ('e', 6)), 24, (4, 4, 10), ('a', '', '', '', 'e'), ('a', 'b', 'c', 'd'), (('bcd', 2), ('cd', 4), ('d', 6)), True, False]
>>> [firm(square), odd_four(square), odd_four(fork), firmness(lane, "cd"), own(lane) == times(lane, 2), str(own(square.without("d"))), places(lane), from_pieces("abcd", (("bcd", 2), ("cd", 4), ("d", 6))) == lane]
[(), 'abcd', None, 4, True, 'abc\nab 2\nac 4\nbc 2', (('a', ('bcd',)), ('b', ('a', 'cd')), ('c', ('ab', 'd')), ('d', ('abc',))), True]
>>> pieces(knot)
raises NoTree()
""",
    "partings": r"""
>>> from nearandfar.partings import clash, clear, cross, partings, parts, room, shape, strength
>>> [clear(square), shape(knot), clear(fork) == pieces(fork), partings(loose), strength(square, "bd"), room(square, "a", "b", "c", "d"), room(knot, "a", "a", "b", "c"), cross(square, "bc", "cd"), cross(square, "b", "bc"), clash(square, "bc", "bd", "cd"), parts(square, "bc", "ad")]
[(('bc', 2), ('cd', 2)), (), True, ('b', 'bc', 'c'), 0, 2, 2, True, False, True, False]
""",
    "rests": r"""
>>> from nearandfar.rests import bare, is_sum, made, rest, rests, share, taken
>>> [is_sum(square), is_sum(knot), rest(knot, "ab"), share(square, "ac"), taken(square, "cd", 1).distances[:3], made("abcd", (("bc", 2), ("cd", 2))) == square, bare(knot) == times(knot, 2), rests(loose)[0], is_sum(twin)]
[True, False, 4, 4, (('ab', 1), ('ac', 1), ('ad', 0)), True, True, ('ab', 8), True]
>>> taken(square, "bd", 1)
raises InvalidNumber(given=1)
""",
    "rounds": r"""
>>> from nearandfar.rounds import all_orders, bad_four, round_orders, run_numbers, table_of_runs
>>> [all_orders(lane), round_orders(lane), round_orders(square), bad_four(square, "abdc"), round_orders(knot)]
[('abcd', 'abdc', 'acbd'), ('abcd', 'abdc'), ('abcd',), 'abdc', ()]
>>> [run_numbers(lane, "abcd"), run_numbers(square, "abcd"), table_of_runs("abcd", "abcd", (("bc", 2), ("cd", 2))) == square]
[(('bcd', 2), ('cd', 4), ('d', 6)), (('bc', 2), ('cd', 2)), True]
""",
    "trips": r"""
>>> from nearandfar.trips import crossings, shortest_length, shortest_trips, trip_length
>>> [trip_length(lane, "abcd"), trip_length(lane, "acbd"), shortest_trips(lane), shortest_length(square), shortest_length(knot), crossings("abcd", "bd"), crossings("abcd", "bc")]
[12, 16, ('abcd', 'abdc'), 4, 6, 4, 2]
""",
    "clocks": r"""
>>> from nearandfar.clocks import bad_three, clock_pieces, clocked, clusters, groups, is_clock, level, levels
>>> [level(lane, "ad"), clocked(lane).distances, is_clock(clock), is_clock(lane), bad_three(lane), level(loose, "ab")]
[3, (('ab', 1), ('ac', 2), ('ad', 3), ('bc', 2), ('bd', 3), ('cd', 3)), True, False, 'abc', 3]
>>> [levels(clock), groups(clock, 2), groups(clock, 4), clusters(clock)]
[(2, 4, 6), ('ab', 'c', 'd'), ('ab', 'cd'), (('ab', 2), ('abcd', 6), ('cd', 4))]
>>> clock_pieces(clock)
(('b', 2), ('bcd', 2), ('c', 4), ('cd', 6), ('d', 4))
""",
    "spanning": r"""
>>> from nearandfar.spanning import count_least_trees, greatest_kept, least_sum, least_trees, standing
>>> [least_sum(lane), least_trees(lane), least_sum(square), count_least_trees(square), standing(square, "ab"), standing(lane, "ab"), standing(lane, "ad")]
[6, (('ab', 'bc', 'cd'),), 3, 4, 'some', 'all', 'none']
>>> [greatest_kept(lane, "ab"), greatest_kept(square, "ac"), count_least_trees(knot), least_sum(clock)]
[3, 1, 12, 12]
""",
    "crowds": r"""
>>> from nearandfar.crowds import bar, crowd, crowd_table, is_bar, is_crowd, least_raise, lone_crowd, sure_partings, weights
>>> even = Table("abcd", (("ab", 2), ("ac", 2), ("ad", 2), ("bc", 2), ("bd", 2), ("cd", 2)))
>>> [crowd(lane), crowd(square), crowd(knot), bar(square), is_bar(knot, (1, -1, -1, -1, -1, -1, -1, 1, 1, 1)), is_bar(loose, bar(loose)), lone_crowd(square), lone_crowd(even)]
[(('bcd', (1, 1)), ('cd', (2, 1)), ('d', (3, 1))), (('bc', (1, 1)), ('cd', (1, 1))), None, None, True, True, True, False]
>>> [weights(even, "bc"), weights(even, "b"), sure_partings(even), sure_partings(square), least_raise(knot), least_raise(even), least_raise(loose), is_crowd(even, (("b", (1, 1)), ("bcd", (1, 1)), ("c", (1, 1)), ("d", (1, 1)))), crowd_table("abc", (("b", 1), ("bc", 2))).distances]
[((0, 1), (1, 1)), ((0, 1), (1, 1)), (), ('bc', 'cd'), (1, 1), (0, 1), (4, 1), True, (('ab', 3), ('ac', 2), ('bc', 1))]
""",
    "piles": r"""
>>> from nearandfar.piles import after, are_heights, gain, is_pile, is_plan, plan_cost
>>> [is_pile(lane, (2, 0, 0, 1)), is_pile(lane, (2, 0, 0)), is_plan(lane, (2, 0, 0, 1), (0, 1, 1, 1), (("a", "b", 1), ("a", "c", 1))), plan_cost(lane, (("a", "b", 1), ("a", "c", 1))), after(lane, (2, 0, 0, 1), (("a", "b", 1), ("a", "c", 1)))]
[True, False, True, 4, (0, 1, 1, 1)]
>>> [are_heights(lane, (6, 5, 3, 0)), are_heights(lane, (7, 5, 3, 0)), gain(lane, (6, 5, 3, 0), (2, 0, 0, 1), (0, 1, 1, 1)), plan_cost(loose, (("a", "b", 1),))]
[True, False, 4, 5]
""",
    "moves": r"""
>>> from nearandfar.moves import amounts, best_places, cost, gather_cost, heights, nearest, parted_cost, plan
>>> [cost(lane, (2, 0, 0, 1), (0, 1, 1, 1)), plan(lane, (2, 0, 0, 1), (0, 1, 1, 1)), cost(square, (1, 0, 1, 0), (0, 1, 0, 1)), amounts(square, (1, 0, 1, 0), (0, 1, 0, 1), "a", "b"), cost(loose, (1, 0, 0), (0, 1, 0)), plan(lane, (1, 0, 0, 0), (1, 0, 0, 0))]
[4, (('a', 'b', 1), ('a', 'c', 1)), 2, (0, 1), 5, ()]
>>> [best_places(lane, (1, 1, 1, 1)), gather_cost(lane, (1, 1, 1, 1)), nearest(lane, (1, 0, 0, 0), ((0, 0, 0, 1), (0, 1, 0, 0), (2, 0, 0, 0))), parted_cost(square, (("bc", (1, 1)), ("cd", (1, 1))), (2, 0, 0, 0), (0, 0, 2, 0)), cost(square, (1, 0, 1, 0), (0, 1, 0, 1))]
['bc', 8, (1,), (4, 1), 2]
>>> cost(lane, (1, 0, 0, 0), (0, 0, 0, 2))
raises Unlike(given=-1)
""",
    "caps": r"""
>>> from nearandfar.caps import cap_of, corners, gap, is_cap, is_corner, is_roof, lowered, mates, middle_cap, radius, under
>>> ones = ((1, 1),) * 4
>>> [is_cap(square, ones), is_corner(square, ones), mates(square, ones, "a"), gap(square, cap_of(square, "a"), cap_of(square, "c")), corners(square)[:2], len(corners(square)), len(corners(fork)), radius(clock), middle_cap(fork)]
[True, False, 'c', (2, 1), (((0, 1), (1, 1), (2, 1), (1, 1)), ((1, 1), (0, 1), (1, 1), (2, 1))), 4, 8, (3, 1), ((3, 1), (4, 1), (3, 1), (2, 1), (4, 1))]
>>> [is_roof(square, ((2, 1),) * 4), lowered(square, ((2, 1),) * 4), gap(square, ones, cap_of(square, "b")), under(square, "z", ones).distances[-1], is_cap(square, ((1, 2),) * 4), lowered(twin, ((4, 1),) * 3)]
[True, ((0, 1), (1, 1), (2, 1), (1, 1)), (1, 1), ('dz', 1), False, ((0, 1), (0, 1), (4, 1))]
""",
    "exchanges": r"""
>>> from nearandfar.exchanges import are_alike, behind, classes, exchanges, form, leaving, pair_classes, taken_back, told_by
>>> [exchanges(clock), len(exchanges(square)), len(exchanges(knot)), exchanges(lane), classes(knot), classes(square)]
[('abcd', 'abdc', 'bacd', 'badc'), 8, 12, ('abcd',), ('ab', 'cde'), ('abcd',)]
>>> [behind(clock, "abdc", "bacd"), taken_back(square, "bcda"), leaving(clock, "a"), pair_classes(square), form(lane)]
['badc', 'dabc', ('abcd', 'abdc'), (('ab', 'ad', 'bc', 'cd'), ('ac', 'bd')), (1, 2, 5, 3, 6, 3)]
>>> [are_alike(lane, clock), told_by(lane, lane), told_by(lane, square)]
[False, 'abcd', None]
""",
    "hidden": r"""
>>> from nearandfar.hidden import fills, forced, greatest_filling, known_way, lead, settling, span, trouble
>>> from nearandfar.sheets import Sheet
>>> part = Sheet("abcd", (("ab", 1), ("ac", 3), ("ad", None), ("bc", 2), ("bd", None), ("cd", 3)))
>>> [part.unknown, span(part, "ad"), span(part, "bd"), span(part, "ab"), forced(part), greatest_filling(part) == lane, fills(part, lane), fills(part, square), known_way(part, "bd")]
[('ad', 'bd'), (0, 6), (1, 5), (1, 1), (), True, True, False, 'bcd']
>>> [lead(part, "ad", "bd"), lead(part, "ad", "ab"), settling(part, lane), forced(part.told_more("ad", 6)), trouble(part), trouble(Sheet.told("abc\nab 9\nac 2\nbc 3")), span(Sheet.told("abc\nab 4\nac ?\nbc ?"), "ac")]
[(-1, 1), (-1, 5), (('ad',),), ('bd',), None, ('ab', 'acb'), (0, 1000000)]
>>> span(Sheet.told("abc\nab 9\nac 2\nbc 3"), "ab")
raises Torn(given=('ab', 'acb'))
""",
    "boards": r"""
>>> from nearandfar.boards import Board
>>> board = Board(loose)
>>> board.close()
>>> board.put("d", (1, 1, 4))
>>> [is_right(board.now), board.changes, board.now.distances[0], board.now.far("d", "c")]
[False, 2, ('ab', 5), 4]
>>> [board.undo(), board.undo(), board.now == loose, board.changes]
[None, None, True, 0]
""",
    "desks": r"""
>>> from nearandfar.desks import Desk, played
>>> desk = Desk()
>>> desk.put("yard", fork)
>>> desk.promise(("yard", ("tree",)))
>>> [desk.names, desk.changes, desk.log[1], played(desk.log).named("yard") == fork]
[('yard',), 2, ('promise', ('yard', ('tree',))), True]
>>> desk.put("yard", square)
raises Broken(index=0)
""",
    "certificates": r"""
>>> from nearandfar.certificates import certify_cap, certify_crowd, certify_level, certify_line, certify_right, certify_span, certify_tree, certify_trip, certify_trips
>>> from nearandfar.checker import accepts
>>> [certify_right(loose)[0][0], certify_line(lane)[0][0], certify_line(square)[0][0], certify_tree(square)[1], certify_tree(lane)[1], certify_span(lane)[0][2], certify_cap(square, ones)[1], certify_level(lane, "ad")[0]]
['long', 'line', 'no line', 'abcd', (('bcd', 2), ('cd', 4), ('d', 6)), 6, 'cdab', ('level', 'abcd\nab 1\nac 3\nad 6\nbc 2\nbd 5\ncd 3', 'ad', 3)]
>>> [accepts(*certify_crowd(knot)), accepts(("tree", "ab\nab 3"), (("b", 6),)), accepts(("tree", "ab\nab 3"), (("b", 3),)), accepts(("cost", "ab\nab 3", (2, 0), (0, 2), 6), ((("a", "b", 2),), (3, 0))), accepts(*certify_trip(square)), accepts(*certify_trips(knot))]
[True, True, False, True, True, True]
""",
    "console": r"""
>>> from nearandfar.console import Console
>>> console = Console(lane)
>>> [console.say("right"), console.say("needed"), console.say("posts"), console.say("pieces"), console.say("trips"), console.say("cost 2,0,0,1 0,1,1,1"), console.say("radius"), console.say("between a d"), console.say("change ad 9"), console.say("right"), console.say("close"), console.say("far a d"), console.say("undo"), console.say("line")]
['yes', 'ab bc cd', '0 1 3 6', 'bcd:2 cd:4 d:6', 'abcd abdc', '4', '3/1', 'b c', 'ok', 'no', 'ok', '6', 'ok', 'no']
>>> console.say("take z")
raises UnknownThing(given='z')
""",
}


def told_error(error):
    """An error as the document tells it."""
    return f"raises {error.__class__.__name__}({', '.join(f'{name}={value!r}' for name, value in vars(error).items())})"


def answer(row, names):
    """What the document would show below a row."""
    try:
        compiled = compile(row, "example", "eval")
    except SyntaxError:
        exec(row, names)
        return None
    try:
        told = eval(compiled, names)
    except Exception as error:
        return told_error(error)
    return None if told is None else repr(told)


def rows_of(text):
    """The rows of an example, each with the answer that is shown, None if none is."""
    lines = text.strip("\n").split("\n")
    rows = []
    for line in lines:
        if line.startswith(">>> "):
            rows.append([line[4:], None])
        else:
            rows[-1][1] = line
    return rows


class TestExamples(unittest.TestCase):
    def test_examples_in_their_order(self):
        names, shown = {}, 0
        for module, text in EXAMPLES.items():
            for row, expected in rows_of(text):
                with self.subTest(module=module, row=row):
                    self.assertEqual(expected, answer(row, names))
                    shown += expected is not None
        self.assertEqual(SHOWN, shown)


SHOWN = 48
