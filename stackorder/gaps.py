"""The pieces of the least and the greatest function with orders on them, and the largest gap between the two."""

from stackorder.bestorders import IDENTITY_LINE, best_order, level_line
from stackorder.bounds import GREATEST, LEAST, bound_table, greatest_at, greatest_pieces, least_at, least_pieces
from stackorder.follows import active_names
from stackorder.fractions import compared, difference
from stackorder.piecesums import ends_of, value_at
from stackorder.ways import ways_of


def order_on(ways, piece, end, sign):
    """An order whose outcomes are on the whole piece, which ends at end (None for no end).

    All chains rise by the same factor, the product of all factors, and are level elsewhere. So a chain
    that reaches a rising piece of the least function at its begin leaves it nowhere: level, it would be
    below. A level piece it reaches at its end, for it does not decrease. The greatest function is
    reached from the other end.
    """
    rises = piece[1] != (0, 1)
    at_begin = rises == (sign == LEAST)
    amount = piece[0] if at_begin else end
    if amount is not None:
        return best_order(ways, level_line(amount), 1, sign)
    return best_order(ways, IDENTITY_LINE, -1 if at_begin else 1, sign)


def pieces_with_orders(plan, *, greatest=False):
    sign = GREATEST if greatest else LEAST
    ways = ways_of(plan)
    active = active_names(plan)
    pieces = bound_table(ways, active, sign)[active]
    for piece, end in zip(pieces, ends_of(pieces)):
        begin, factor, plus = piece
        yield (begin, factor, plus, order_on(ways, piece, end, sign))


def widest_gap(least, greatest):
    """The greatest difference of the two functions of a plan, and an amount where it is reached."""
    # The difference is straight between the begins, and level before the first and behind the last one.
    begins = [piece[0] for piece in least[1:] + greatest[1:]]
    widest = (0, 1)
    reached = (0, 1)
    for amount in [(0, 1), *begins]:
        gap = difference(value_at(greatest, amount), value_at(least, amount))
        if compared(gap, widest) > 0:
            widest = gap
            reached = amount
    return (widest, reached)


def largest_gap(plan):
    gap, amount = widest_gap(least_pieces(plan), greatest_pieces(plan))
    return (gap, amount, least_at(plan, amount)[1], greatest_at(plan, amount)[1])
