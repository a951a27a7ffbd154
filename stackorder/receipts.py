"""Receipts (amount, outcome, seen), and the legal orders that fit them."""

from stackorder.clauses import applied
from stackorder.follows import clauses_of
from stackorder.orders import is_before, orders_of


def is_allowed(receipt, many, k, value):
    """Whether the receipt allows the value at position k of a plan with so many active rules."""
    _, outcome, seen = receipt
    if k == many and value != outcome:
        return False
    return all([value == worth for position, worth in seen if position == k])


def allowed_ones(receipt, many, k, values):
    """The tuple of those of the values that are allowed at position k."""
    return tuple([value for value in values if is_allowed(receipt, many, k, value)])


def values_along(clauses, order, amount):
    """The values of the amount after none of the rules of the order, after the first one, and so on."""
    values = [amount]
    for name in order:
        values.append(applied(clauses[name], values[-1]))
    return values


def misfit_at(clauses, receipt, order):
    """The first position at which the value of the order is not allowed; None if the order fits."""
    for k, value in enumerate(values_along(clauses, order, receipt[0])):
        if not is_allowed(receipt, len(order), k, value):
            return k
    return None


def orders_fitting(plan, receipt):
    clauses = clauses_of(plan)
    for order in orders_of(plan):
        if misfit_at(clauses, receipt, order) is None:
            yield order


def surely_before(plan, receipt):
    orders = list(orders_fitting(plan, receipt))
    if not orders:
        return None
    names = sorted(orders[0])
    pairs = [(one, other) for one in names for other in names if one != other]
    return tuple([pair for pair in pairs if all([is_before(order, *pair) for order in orders])])
