"""Ask papers, which tell what to ask next, and deny papers, which show that so many questions are not enough."""

from stackorder.amounttables import amount_table
from stackorder.asking import Asking
from stackorder.settling import narrowed


def ask_node(asking, plan, amount, orders):
    """A node of least depth; plan is the plan with the answers on the way, and orders are its legal orders."""
    if asking.is_told(orders):
        return ("told", amount_table(plan, amount))
    question, ahead, behind = asking.best_branch(orders)
    one = ask_node(asking, narrowed(plan, question), amount, ahead)
    other = ask_node(asking, narrowed(plan, question[::-1]), amount, behind)
    return ("ask", question, one, other)


def ask_paper(plan, amount):
    asking = Asking(plan, amount)
    return ask_node(asking, plan, amount, asking.everything())


def differing_pair(asking, orders):
    """The first order and another one with another outcome."""
    first = orders[0]
    others = [order for order in orders if asking.outcomes[order] != asking.outcomes[first]]
    return (first, others[0])


def deny_node(asking, orders, size):
    """A node for the size; more questions than that are needed for the orders."""
    if size == 0:
        return differing_pair(asking, orders)
    rows = []
    for question, ahead, behind in asking.branches(orders):
        # One of the answers leaves orders for which size - 1 questions are not enough.
        if asking.needed(ahead) >= size:
            rows.append((question, deny_node(asking, ahead, size - 1)))
        else:
            rows.append((question[::-1], deny_node(asking, behind, size - 1)))
    return tuple(rows)


def deny_paper(plan, amount, size):
    asking = Asking(plan, amount)
    orders = asking.everything()
    if asking.needed(orders) <= size:
        return None
    return deny_node(asking, orders, size)
