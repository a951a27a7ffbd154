"""Bound papers: tables of functions that no order passes, and orders that reach them."""

from stackorder.bounds import GREATEST, LEAST, bound_table
from stackorder.follows import active_names
from stackorder.gaps import pieces_with_orders
from stackorder.ways import ways_of


def bound_paper(plan, *, greatest=False):
    ways = ways_of(plan)
    functions = bound_table(ways, active_names(plan), GREATEST if greatest else LEAST)
    table = tuple([(start, functions[start]) for start in ways])
    return (table, tuple([row[3] for row in pieces_with_orders(plan, greatest=greatest)]))
