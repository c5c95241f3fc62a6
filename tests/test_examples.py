"""The examples that the document shows, with just the answers that it shows."""

import unittest

# PIECES stands for what the document shows for the ties of the tree of fork, in an example of partings.
PIECES = (("b", 4), ("bcde", 2), ("c", 4), ("cde", 2), ("d", 2), ("de", 4), ("e", 6))
EXAMPLES = {
    "tables": r"""
>>> from nearandfar.tables import Table, added, times
>>> lane = Table("abcd", (("ab", 1), ("ac", 3), ("ad", 6), ("bc", 2), ("bd", 5), ("cd", 3)))
>>> fork = Table.told("abcde\nab 3\nac 4\nad 5\nae 7\nbc 5\nbd 6\nbe 8\ncd 5\nce 7\nde 4")
>>> square = Table.told("abcd\nab 1\nac 2\nad 1\nbc 1\nbd 2\ncd 1")
>>> knot = Table.told("abcde\nab 2\nac 1\nad 1\nae 1\nbc 1\nbd 1\nbe 1\ncd 2\nce 2\nde 2")
>>> clock = Table.told("abcd\nab 2\nac 6\nad 6\nbc 6\nbd 6\ncd 4")
>>> loose, twin = Table.told("abc\nab 9\nac 2\nbc 3"), Table.told("abc\nab 0\nac 4\nbc 4")
>>> [lane.far("d", "b"), knot.far("c", "c"), len(fork), str(lane.without("c")), loose.changed("ab", 5).distances, twin.grown("x", (7, 7, 7)).things]
[5, 0, 5, 'abd\nab 1\nad 6\nbd 5', (('ab', 5), ('ac', 2), ('bc', 3)), 'abcx']
>>> [str(loose.renamed("xcb")), times(twin, 3).far("a", "c"), added(square, square) == times(square, 2), clock.renamed("badc") == clock]
['bcx\nbc 3\nbx 2\ncx 9', 12, True, True]
>>> Table("abc", (("ab", 1), ("bc", 1)))
raises InvalidDistances(index=1)
""",
    "ways": r"""
>>> from nearandfar.ways import long_three, between, closed, count_ways, is_right, least_way, spread, twins, way_length
>>> [way_length(lane, "adb"), is_right(fork), is_right(loose), long_three(loose) in ("acb", "bca"), str(closed(loose)), closed(knot) == knot, least_way(loose, "a", "b"), count_ways(square, "a", "c"), count_ways(lane, "a", "d")]
[11, True, False, True, 'abc\nab 5\nac 2\nbc 3', True, 'acb', 3, 4]
>>> [between(lane, "a", "d"), between(square, "c", "a"), between(fork, "a", "e"), twins(twin), twins(lane), spread(fork), least_way(knot, "b", "b")]
['bc', 'bd', '', ('ab',), (), 8, 'b']
""",
    "webs": r"""
>>> from nearandfar.webs import Web, needless_ties, shortest_roads, users
>>> forkweb = Web.told("abcde\nPQ 1\nPa 1\nPb 2\nQR 2\nQc 2\nRd 1\nRe 3")
>>> [forkweb.table() == fork, forkweb.hidden, len(forkweb), shortest_roads(forkweb, "ad"), users(forkweb, "QR")]
[True, 'PQR', 7, ('aPQRd',), ('ad', 'ae', 'bd', 'be', 'cd', 'ce')]
>>> ring = Web("abcd", (("ab", 1), ("ac", 2), ("ad", 1), ("bc", 1), ("cd", 1)))
>>> [ring.table() == square, shortest_roads(ring, "ac"), needless_ties(ring), users(ring, "ab"), len(ring.without("ac"))]
[True, ('abc', 'ac', 'adc'), ('ac',), ('ab',), 4]
""",
    "needed": r"""
>>> from nearandfar.needed import least_web, makes, needed_pairs
>>> [needed_pairs(lane), needed_pairs(square), len(needed_pairs(fork)), len(needed_pairs(knot))]
[('ab', 'bc', 'cd'), ('ab', 'ad', 'bc', 'cd'), 10, 6]
>>> [str(least_web(lane)), makes(forkweb, fork), makes(least_web(square), square), makes(forkweb, lane)]
['abcd\nab 1\nbc 2\ncd 3', True, True, False]
""",
    "lines": r"""
>>> from nearandfar.lines import bent_three, crooked_four, files, is_line, is_straight, line_lots, longest_files, posts
>>> [is_straight(lane, "abd"), is_straight(fork, "abc"), posts(lane), posts(square), posts(twin), is_line(loose)]
[True, False, (0, 1, 3, 6), None, (0, 0, 4), False]
>>> [crooked_four(square), crooked_four(lane), bent_three(square), bent_three(loose), bent_three(fork), files(lane), files(square), longest_files(Table("abc", (("ab", 2), ("ac", 4), ("bc", 2)))), line_lots(square), line_lots(loose)]
['abcd', None, None, 'abc', 'abc', ('abcd',), ('abc', 'adc', 'bad', 'bcd'), ('abc',), ('abc', 'abd', 'acd', 'bcd'), ('ab', 'ac', 'bc')]
""",
    "partings": r"""
>>> from nearandfar.partings import clash, clear, cross, partings, parts, room, shape, strength
>>> [clear(square), shape(knot), clear(fork) == PIECES, partings(loose), strength(square, "bd"), room(square, "a", "b", "c", "d"), room(knot, "a", "a", "b", "c"), cross(square, "bc", "cd"), cross(square, "b", "bc"), clash(square, "bc", "bd", "cd"), parts(square, "bc", "ad")]
[(('bc', 2), ('cd', 2)), (), True, ('b', 'bc', 'c'), 0, 2, 2, True, False, True, False]
""",
}


def told_error(error):
    """An error as the document tells it."""
    return f"raises {error.__class__.__name__}({', '.join(f'{name}={value!r}' for name, value in vars(error).items())})"


def answer(row, names):
    """What the document would show below a row."""
    try:
        compiled = compile(row, "example", "eval")
    except SyntaxError:
        exec(row, names)
        return None
    try:
        return repr(eval(compiled, names))
    except Exception as error:
        return told_error(error)


def rows_of(text):
    """The rows of an example, each with the answer that is shown, None if none is."""
    lines = text.strip("\n").split("\n")
    rows = []
    for line in lines:
        if line.startswith(">>> "):
            rows.append([line[4:], None])
        else:
            rows[-1][1] = line
    return rows


class TestExamples(unittest.TestCase):
    def test_examples_in_their_order(self):
        names, shown = {"PIECES": PIECES}, 0
        for module, text in EXAMPLES.items():
            for row, expected in rows_of(text):
                with self.subTest(module=module, row=row):
                    self.assertEqual(expected, answer(row, names))
                    shown += expected is not None
        self.assertEqual(SHOWN, shown)


SHOWN = 12
