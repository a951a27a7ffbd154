"""The checker of bound papers: it follows the ways of the plan, whoever wrote the paper."""

from stackorder.bounds import GREATEST, LEAST
from stackorder.errors import InvalidPaper
from stackorder.follows import active_names
from stackorder.kinds import are_names, is_row
from stackorder.orders import chain_of, is_legal
from stackorder.piecesums import IDENTITY_PIECES, above_at, are_pieces, chosen, pieces_after, pieces_of
from stackorder.ways import ways_of


def is_bound_row(thing):
    return is_row(thing, 2) and are_names(thing[0]) and are_pieces(thing[1])


def is_bound_shape(thing):
    if not is_row(thing, 2) or not isinstance(thing[0], tuple) or not isinstance(thing[1], tuple):
        return False
    return all([is_bound_row(row) for row in thing[0]]) and all([are_names(order) for order in thing[1]])


def is_passed(pieces, reached, sign):
    """Whether an order that reaches this function passes the pieces somewhere: below (sign -1) or above (sign 1)."""
    above = above_at(pieces, reached) if sign == LEAST else above_at(reached, pieces)
    return above is not None


def check_bounds(ways, functions, sign):
    for k, start in enumerate(ways):
        for r, (rest, _, clause) in enumerate(ways[start]):
            if is_passed(functions[start], pieces_after(clause, functions[rest]), sign):
                raise InvalidPaper("bound", (k, r))


def check_reached(plan, orders, goal, sign):
    for j, order in enumerate(orders):
        if not is_legal(plan, order):
            raise InvalidPaper("order", j)
    functions = [pieces_of(chain_of(plan, order)) for order in orders]
    if not functions or chosen(functions, sign) != goal:
        raise InvalidPaper("reach", -1)


def lets_bound(plan, thing, *, greatest=False):
    sign = GREATEST if greatest else LEAST
    if not is_bound_shape(thing):
        raise InvalidPaper("shape", -1)
    table, orders = thing
    ways = ways_of(plan)
    if [start for start, _ in table] != list(ways):
        raise InvalidPaper("starts", -1)
    functions = {start: pieces for start, pieces in table}
    if functions[()] != IDENTITY_PIECES:
        raise InvalidPaper("identity", -1)
    check_bounds(ways, functions, sign)
    goal = functions[active_names(plan)]
    check_reached(plan, orders, goal, sign)
    return goal
