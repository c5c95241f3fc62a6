"""Least trees: ties by which all things hang together and that are together the least."""

from nearandfar.basics import both_ways, check_pair
from nearandfar.clocks import least_steps
from nearandfar.errors import TooMany
from nearandfar.tables import ascending, check_table

MOST_TREES = 400


def joined(lots, pair):
    """Return the lots of things that hang together if a pair is tied, too."""
    tied = [lot for lot in lots if pair[0] in lot or pair[1] in lot]
    return tuple(sorted([lot for lot in lots if lot not in tied] + [ascending("".join(tied))]))


def all_least_trees(table):
    """List all least trees, their pairs from the nearest to the farthest one."""
    trees = {tuple(table.things): [()]}
    for number in sorted({far: pair for pair, far in table.distances}):
        for pair, far in table.distances:
            if far == number:
                trees = with_pair(trees, pair)
        # Of pairs up to each distance, a least tree has as many as can stand together.
        fewest = min([len(lots) for lots in trees])
        trees = {lots: trees[lots] for lots in trees if len(lots) == fewest}
    return trees[(table.things,)]


def with_pair(trees, pair):
    """Return a dict of lists of ties, by the lots that hang together by them: those of trees, and with a pair more."""
    grown = {lots: trees[lots] for lots in trees}
    for lots in trees:
        whole = joined(lots, pair)
        if whole != lots:
            grown[whole] = grown.get(whole, []) + [tree + (pair,) for tree in trees[lots]]
    return grown


def least_sum(table):
    """Return what the distances of a least tree are together."""
    tree = least_tree(table)
    return sum([far for pair, far in table.distances if pair in tree])


def count_least_trees(table):
    """Return how many least trees there are."""
    check_table(table)
    return len(all_least_trees(table))


def least_trees(table):
    """Return the ascending tuple of all least trees."""
    check_table(table)
    trees = all_least_trees(table)
    if len(trees) > MOST_TREES:
        raise TooMany(len(trees))
    return tuple(sorted([tuple(sorted(tree)) for tree in trees]))


def least_tree(table):
    """Return a least tree."""
    check_table(table)
    return tuple(sorted(all_least_trees(table)[0]))


def standing(table, pair):
    """Return of which least trees the pair is a part: "all", "some" or "none"."""
    kept = greatest_kept(table, pair)
    far = table.far(pair[0], pair[1])
    if kept is None or far < kept:
        return "all"
    return "some" if far == kept else "none"


def greatest_kept(table, pair):
    """Return the level of a pair by ways that do not have its two as neighbours; None for a table of two things."""
    check_table(table)
    check_pair(table.things, pair)
    others = [(other, far) for other, far in table.distances if other != pair]
    return least_steps(table.things, both_ways(table.things, others)).get(pair)
