"""The orders with the least or the greatest outcomes: of an amount, or of all amounts far out on one side.

Each rule makes a line (factor, plus) of a line. A level line stands for one amount. The identity line
stands for the amounts far to the right (side 1) or far to the left (side -1), where no two lines cross.
"""

from stackorder.clauses import line_value
from stackorder.fractions import compared, fraction_product
from stackorder.ways import longer_starts

IDENTITY_LINE = ((1, 1), (0, 1))


def level_line(amount):
    return ((0, 1), amount)


def compared_far(one, other, side):
    """-1, 0 or 1 if the line one is lower than, the same as or higher than other, far out on the side."""
    steeper = side * compared(one[0], other[0])
    return steeper if steeper != 0 else compared(one[1], other[1])


def line_after(clause, line, side):
    """What the clause makes of the line, far out on the side."""
    factor, plus, low, high = clause
    moved = (fraction_product(factor, line[0]), line_value(factor, plus, line[1]))
    for bound, sign in ((low, -1), (high, 1)):
        if bound is not None and compared_far(moved, level_line(bound), side) == sign:
            return level_line(bound)
    return moved


def best_order(ways, line, side, sign):
    """A legal order with the least (sign -1) or the greatest (sign 1) outcomes of the line, far out on the side."""
    # Clauses never decrease, so of the orders of a start the best one is enough.
    best = {(): (line, ())}
    for start in longer_starts(ways):
        for rest, name, clause in ways[start]:
            reached = line_after(clause, best[rest][0], side)
            if start not in best or compared_far(reached, best[start][0], side) == sign:
                best[start] = (reached, best[rest][1] + (name,))
    return best[max(ways, key=len)][1]
