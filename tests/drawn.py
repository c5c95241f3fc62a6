"""Trees that are drawn first, and of which then a table is made."""

import itertools
import random

from nearandfar.tables import Table


class Drawn:
    """A tree: at tells the place of each thing, ties the doubled length for each two places that are tied."""

    def __init__(self, at, ties):
        self.at = at
        self.ties = ties
        self.things = "".join(sorted(at))

    def places(self):
        return sorted(set(self.at.values()) | {place for tie in self.ties for place in tie})

    def neighbours(self, place):
        return sorted({other for tie in self.ties if place in tie for other in tie if other != place})

    def way(self, start, end):
        """The places from the one to the other one."""
        rows = [[start]]
        while rows:
            row = rows.pop()
            if row[-1] == end:
                return row
            rows += [row + [place] for place in self.neighbours(row[-1]) if place not in row]
        raise AssertionError("the tree does not hang together")

    def doubled(self, start, end):
        way = self.way(start, end)
        return sum(self.ties[tuple(sorted(step))] for step in zip(way, way[1:]))

    def here(self, place):
        return "".join(thing for thing in self.things if self.at[thing] == place)

    def beyond(self, place, neighbour):
        """All things beyond the tie from a place to a neighbour."""
        return "".join(thing for thing in self.things if neighbour in self.way(place, self.at[thing]))

    def table(self):
        pairs = itertools.combinations(self.things, 2)
        return Table(self.things, tuple((x + y, self.doubled(self.at[x], self.at[y]) // 2) for x, y in pairs))

    def told_pieces(self):
        found = []
        for (one, other), length in self.ties.items():
            lots = (self.beyond(one, other), self.beyond(other, one))
            found.append((lots[0] if self.things[0] in lots[1] else lots[1], length))
        return tuple(sorted(found))

    def told_places(self):
        rows = [(self.here(place), tuple(sorted(self.beyond(place, near) for near in self.neighbours(place)))) for place in self.places()]
        return tuple(sorted(rows))

    def middle(self, three):
        """The one place that is on all three ways between three things."""
        ways = [set(self.way(self.at[x], self.at[y])) for x, y in itertools.combinations(three, 2)]
        (place,) = ways[0] & ways[1] & ways[2]
        return place


def drawn_tree(seed, size, bound, greatest):
    """A tree of so many things at up to so many places; each distance is whole, but not each length."""
    chance = random.Random(seed)
    letters = "".join(sorted(chance.sample("abcdefghijklmnopqrstuvwxyz", size)))
    ties, at = {}, {}
    for place in range(1, bound):
        ties[chance.randrange(place), place] = 0
    for letter in letters:
        at[letter] = chance.randrange(bound)
    tree = shrunken(Drawn(at, ties))
    # Places where things lie are even, the others even or odd: then the way between two things is even.
    odd = {place: chance.randrange(2) if tree.here(place) == "" else 0 for place in tree.places()}
    for one, other in tree.ties:
        tree.ties[one, other] = 2 * chance.randint(1, greatest) - (odd[one] ^ odd[other])
    return tree


def shrunken(tree):
    """The tree without places where nothing lies and fewer than three ties meet."""
    for place in tree.places():
        near = tree.neighbours(place)
        if tree.here(place) == "" and len(near) < 3:
            ties = {tie: length for tie, length in tree.ties.items() if place not in tie}
            if len(near) == 2:
                ties[tuple(near)] = 0
            return shrunken(Drawn(tree.at, ties))
    return tree


def drawn_trees():
    """Trees of two to seven things, with hidden places, things at one place, and lengths that are halves."""
    return [drawn_tree(seed, 2 + seed % 6, 1 + seed % 11, (1, 4, 60000)[seed % 3]) for seed in range(66)]
