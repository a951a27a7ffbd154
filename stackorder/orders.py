"""The legal orders of a plan and their chains."""

from stackorder.clauses import chained
from stackorder.follows import clauses_of
from stackorder.kinds import are_names
from stackorder.starts import needs_of, next_names


def orders_after(needs, done):
    """Yields the legal orders that begin with the names in done, ascending."""
    if len(done) == len(needs):
        yield done
    for name in next_names(needs, done):
        longer = done + (name,)
        yield from orders_after(needs, longer)


def orders_of(plan):
    needs = needs_of(plan)
    yield from orders_after(needs, ())


def is_legal(plan, thing):
    if not are_names(thing):
        return False
    needs = needs_of(plan)
    if sorted(thing) != list(needs):
        return False
    return all([first in thing[:k] for k, name in enumerate(thing) for first in needs[name]])


def is_before(order, one, other):
    """Whether one stands before other in the order, which has both."""
    return order.index(one) < order.index(other)


def chain_of(plan, order):
    named = clauses_of(plan)
    clauses = [named[name] for name in order]
    return chained(*clauses)
