"""The least and the greatest function of each start, and the least and the greatest outcome of an amount."""

from stackorder.bestorders import best_order, level_line
from stackorder.clauses import applied
from stackorder.follows import active_names
from stackorder.orders import chain_of
from stackorder.piecesums import IDENTITY_PIECES, chosen, pieces_after
from stackorder.ways import starts_within, ways_of

LEAST = -1
GREATEST = 1


def bound_table(ways, start, sign):
    """A dict from each start within the start to its least (sign -1) or greatest (sign 1) function."""
    table = {(): IDENTITY_PIECES}
    for part in starts_within(ways, start)[1:]:
        functions = [pieces_after(clause, table[rest]) for rest, _, clause in ways[part]]
        table[part] = chosen(functions, sign)
    return table


def bound_pieces(plan, start, sign):
    goal = active_names(plan) if start is None else start
    return bound_table(ways_of(plan), goal, sign)[goal]


def least_pieces(plan, *, start=None):
    return bound_pieces(plan, start, LEAST)


def greatest_pieces(plan, *, start=None):
    return bound_pieces(plan, start, GREATEST)


def bound_at(plan, amount, sign):
    # A level line is the same on both sides.
    order = best_order(ways_of(plan), level_line(amount), 1, sign)
    return (applied(chain_of(plan, order), amount), order)


def least_at(plan, amount):
    return bound_at(plan, amount, LEAST)


def greatest_at(plan, amount):
    return bound_at(plan, amount, GREATEST)


def spread_at(plan, amount):
    """The pair of the least and the greatest outcome of the amount."""
    return (least_at(plan, amount)[0], greatest_at(plan, amount)[0])
