"""The names, arguments and homes of all that the interface lists."""

import importlib
import inspect
import unittest

FUNCTIONS = {
    "tables": ("times(table, factor)", "added(table, other_table)"),
    "ways": (
        "way_length(table, way)", "is_right(table)", "long_three(table)", "closed(table)", "least_way(table, thing, other)",
        "count_ways(table, thing, other)", "between(table, thing, other)", "twins(table)", "spread(table)",
    ),
    "webs": ("shortest_roads(web, pair)", "users(web, tie)", "needless_ties(web)"),
    "needed": ("needed_pairs(table)", "least_web(table)", "makes(web, table)"),
    "lines": (
        "is_straight(table, things)", "files(table)", "longest_files(table)", "is_line(table)", "posts(table)",
        "crooked_four(table)", "bent_three(table)", "line_lots(table)",
    ),
    "trees": (
        "firmness(table, parting)", "firm(table)", "odd_four(table)", "is_tree(table)", "own(table)", "pieces(table)",
        "tree_length(table)", "places(table)", "path(table, thing, other)", "meeting(table, thing, other, third)",
        "from_pieces(things, parts)",
    ),
    "partings": (
        "partings(table)", "parts(table, parting, pair)", "cross(table, parting, other_parting)",
        "clash(table, parting, other_parting, third_parting)", "room(table, thing, other, third, fourth)",
        "strength(table, parting)", "clear(table)", "shape(table)",
    ),
    "rests": (
        "share(table, pair)", "rest(table, pair)", "rests(table)", "is_sum(table)", "bare(table)",
        "taken(table, parting, by)", "made(things, parts)",
    ),
    "rounds": (
        "all_orders(table)", "bad_four(table, order)", "round_orders(table)", "run_numbers(table, order)",
        "table_of_runs(things, order, numbers)",
    ),
    "trips": (
        "trip_length(table, order)", "shortest_length(table)", "shortest_trips(table)", "crossings(order, parting)",
    ),
    "clocks": (
        "level(table, pair)", "clocked(table)", "is_clock(table)", "bad_three(table)", "levels(table)",
        "groups(table, number)", "clusters(table)", "clock_pieces(table)",
    ),
    "spanning": (
        "least_sum(table)", "count_least_trees(table)", "least_trees(table)", "least_tree(table)", "standing(table, pair)",
        "greatest_kept(table, pair)",
    ),
    "crowds": (
        "crowd(table)", "bar(table)", "is_crowd(table, value)", "is_bar(table, value)", "weights(table, parting)",
        "sure_partings(table)", "lone_crowd(table)", "least_raise(table)", "raise_bar(table)", "crowd_table(things, marks)",
    ),
    "piles": (
        "is_pile(table, value)", "is_plan(table, first, second, value)", "are_heights(table, value)", "plan_cost(table, plan)",
        "after(table, pile, plan)", "gain(table, heights, first, second)",
    ),
    "moves": (
        "cost(table, first, second)", "plan(table, first, second)", "heights(table, first, second)",
        "amounts(table, first, second, thing, other)", "best_places(table, pile)", "gather_cost(table, pile)",
        "nearest(table, pile, piles)", "parted_cost(table, marks, first, second)",
    ),
    "caps": (
        "is_roof(table, lifts)", "is_cap(table, lifts)", "lowered(table, lifts)", "cap_of(table, thing)",
        "mates(table, lifts, thing)", "gap(table, lifts, other_lifts)", "is_corner(table, lifts)", "corners(table)",
        "radius(table)", "middle_cap(table)", "under(table, letter, lifts)",
    ),
    "exchanges": (
        "is_exchange(table, renaming)", "exchanges(table)", "behind(table, renaming, later)", "taken_back(table, renaming)",
        "classes(table)", "pair_classes(table)", "leaving(table, thing)", "form(table)", "are_alike(table, other_table)",
        "told_by(table, other_table)",
    ),
    "hidden": (
        "trouble(sheet)", "fills(sheet, table)", "span(sheet, pair)", "forced(sheet)", "greatest_filling(sheet)",
        "filling_with(sheet, pair, distance)", "lead(sheet, pair, other)", "known_way(sheet, pair)", "settling(sheet, table)",
    ),
    "desks": ("played(log)",),
    "checker": ("accepts(claim, paper)",),
    "certificates": (
        "certify_right(table)", "certify_closed(table)", "certify_web(web)", "certify_needed(table)", "certify_line(table)",
        "certify_tree(table)", "certify_sum(table)", "certify_strength(table, parting)", "certify_round(table)",
        "certify_trip(table)", "certify_trips(table)", "certify_level(table, pair)", "certify_span(table)", "certify_crowd(table)",
        "certify_cost(table, first, second)", "certify_cap(table, lifts)", "certify_radius(table)",
        "certify_alike(table, other_table)", "certify_sheet(sheet, pair)",
    ),
}
CLASSES = {
    ("tables", "Table"): (
        "__init__(self, things, distances)", "told(cls, text)", "__str__(self)", "__len__(self)", "far(self, thing, other)",
        "changed(self, pair, distance)", "without(self, thing)", "grown(self, letter, row)", "renamed(self, letters)",
    ),
    ("webs", "Web"): (
        "__init__(self, things, ties)", "told(cls, text)", "__str__(self)", "__len__(self)", "table(self)", "without(self, tie)",
    ),
    ("sheets", "Sheet"): (
        "__init__(self, things, distances)", "told(cls, text)", "__str__(self)", "__len__(self)", "told_more(self, pair, distance)",
    ),
    ("boards", "Board"): (
        "__init__(self, table)", "put(self, letter, row)", "take(self, thing)", "change(self, pair, distance)", "close(self)",
        "strip(self, parting, by)", "cover(self, letter, lifts)", "undo(self)", "trial(self)", "tried(self, action)",
    ),
    ("desks", "Desk"): (
        "__init__(self)", "put(self, name, table)", "named(self, name)", "drop(self, name)", "promise(self, wish)",
        "lift(self, index)", "undo(self)", "trial(self)", "tried(self, action)", "__len__(self)",
    ),
    ("console", "Console"): ("__init__(self, table)", "say(self, command)"),
}
PROPERTIES = {
    ("tables", "Table"): ("things", "distances"),
    ("webs", "Web"): ("things", "ties", "hidden"),
    ("sheets", "Sheet"): ("things", "distances", "unknown", "text"),
    ("boards", "Board"): ("now", "changes"),
    ("desks", "Desk"): ("names", "promises", "changes", "log"),
    ("console", "Console"): ("board",),
}


def home(module):
    return importlib.import_module(f"nearandfar.{module}")


class TestInterface(unittest.TestCase):
    def test_functions(self):
        for module, rows in FUNCTIONS.items():
            for row in rows:
                function = getattr(home(module), row.split("(")[0])
                self.assertEqual(row, function.__name__ + str(inspect.signature(function)))
                self.assertEqual(f"nearandfar.{module}", function.__module__)

    def test_classes(self):
        for (module, name), rows in CLASSES.items():
            kind = getattr(home(module), name)
            self.assertEqual(f"nearandfar.{module}", kind.__module__)
            for row in rows:
                method = vars(kind)[row.split("(")[0]]
                self.assertIs(row.startswith("told("), isinstance(method, classmethod))
                method = getattr(method, "__func__", method)
                self.assertEqual(row, method.__name__ + str(inspect.signature(method)))
            for each in PROPERTIES[module, name]:
                self.assertIsInstance(vars(kind)[each], property)

    def test_errors(self):
        errors = home("errors")
        for name, kind in vars(errors).items():
            if inspect.isclass(kind):
                self.assertEqual("nearandfar.errors", kind.__module__)
