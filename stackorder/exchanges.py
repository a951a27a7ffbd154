"""Exchanges of two next rules after a start, and which of them somebody notices."""

from stackorder.arrivals import orders_ahead, orders_behind
from stackorder.clauses import differs_at
from stackorder.orders import chain_of
from stackorder.starts import grown, needs_of, next_names, starts_of


def noticed(plan, start, one, other):
    needs = needs_of(plan)
    lesser, greater = sorted([one, other])
    endings = orders_behind(needs, grown(grown(start, one), other))
    for ahead in orders_ahead(needs, start):
        for ending in endings:
            first = ahead + (lesser, greater) + ending
            second = ahead + (greater, lesser) + ending
            amount = differs_at(chain_of(plan, first), chain_of(plan, second))
            if amount is not None:
                return (amount, first, second)
    return None


def exchanges_of(plan):
    """The ascending list of all exchanges (start, one, other)."""
    needs = needs_of(plan)
    exchanges = []
    for start in starts_of(plan):
        names = next_names(needs, start)
        for i, one in enumerate(names):
            exchanges.extend([(start, one, other) for other in names[i + 1:]])
    return exchanges


def exchanges_noticed(plan):
    exchanges = exchanges_of(plan)
    return tuple([exchange for exchange in exchanges if noticed(plan, *exchange) is not None])
