"""What arrives at a start, and what is seen after it, for all orders that lead to it and away from it."""

from stackorder.clauses import values_of
from stackorder.intervals import ordered, seen_interval
from stackorder.orders import chain_of, orders_after
from stackorder.starts import needs_of


def orders_ahead(needs, start):
    """The list of the orders of the start's rules in which they can be the first ones of a legal order."""
    inside = {name: needs[name] for name in start}
    return list(orders_after(inside, ()))


def orders_behind(needs, start):
    """The list of the orders of the other rules in which they can be the last ones of a legal order."""
    return [order[len(start):] for order in orders_after(needs, start)]


def arrivals_at(plan, start):
    orders = orders_ahead(needs_of(plan), start)
    return ordered([values_of(chain_of(plan, order)) for order in orders])


def views_after(plan, start):
    orders = orders_behind(needs_of(plan), start)
    views = [seen_interval(chain_of(plan, order)) for order in orders]
    return ordered([view for view in views if view is not None])
