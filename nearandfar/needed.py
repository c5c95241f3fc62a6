"""Needed pairs, and the least web without hidden places that makes a table."""

from nearandfar.basics import pairs_of
from nearandfar.tables import check_table
from nearandfar.ways import between, check_no_twins, check_right
from nearandfar.webs import Web, check_web


def needed_pairs(table):
    """Return the ascending tuple of all pairs between which there is no thing."""
    check_table(table)
    check_right(table)
    check_no_twins(table)
    return tuple([pair for pair in pairs_of(table.things) if between(table, pair[0], pair[1]) == ""])


def least_web(table):
    """Return the web of the needed pairs, without hidden places."""
    needed = needed_pairs(table)
    return Web(table.things, tuple([(pair, far) for pair, far in table.distances if pair in needed]))


def makes(web, table):
    """Tell whether the table of the web is this one."""
    check_web(web)
    check_table(table)
    return web.table() == table
