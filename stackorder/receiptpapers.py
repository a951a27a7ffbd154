"""Receipt papers: an order that fits, or all values that the receipt allows, which lead to no outcome."""

from stackorder.follows import active_names
from stackorder.fractions import ascending
from stackorder.outcomes import made_along
from stackorder.receipts import allowed_ones, orders_fitting
from stackorder.ways import longer_starts, ways_of


def allowed_values(plan, receipt):
    """A dict from each start to the tuple of the values at which the receipt lets orders of its rules arrive."""
    ways = ways_of(plan)
    many = len(active_names(plan))
    allowed = {(): allowed_ones(receipt, many, 0, [receipt[0]])}
    for start in longer_starts(ways):
        values = ascending(made_along(ways, allowed, start))
        allowed[start] = allowed_ones(receipt, many, len(start), values)
    return allowed


def receipt_paper(plan, receipt):
    orders = list(orders_fitting(plan, receipt))
    if orders:
        return ("fits", orders[0])
    table = allowed_values(plan, receipt)
    return ("none", tuple(sorted(table.items())))
