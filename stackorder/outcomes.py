"""All outcomes of an amount, and the questions whose answers decide between them."""

from stackorder.clauses import applied
from stackorder.follows import active_names, follows_of
from stackorder.fractions import ascending
from stackorder.orders import chain_of, orders_of
from stackorder.ways import longer_starts, ways_of


def made_along(ways, made, start):
    """The list of what each last rule of the start makes of each value that is made before it."""
    return [applied(clause, value) for rest, _, clause in ways[start] for value in made[rest]]


def values_made(ways, amount):
    """A dict from each start to the ascending list of the values that its rules can make of the amount."""
    made = {(): [amount]}
    for start in longer_starts(ways):
        made[start] = ascending(made_along(ways, made, start))
    return made


def outcomes_of(plan, amount):
    return tuple(values_made(ways_of(plan), amount)[active_names(plan)])


def outcomes_by_order(plan, amount):
    """A dict from each legal order, ascending, to its outcome of the amount."""
    return {order: applied(chain_of(plan, order), amount) for order in orders_of(plan)}


def questions_of(plan):
    active = active_names(plan)
    decided = follows_of(plan)
    questions = []
    for i, one in enumerate(active):
        for other in active[i + 1:]:
            if (one, other) not in decided and (other, one) not in decided:
                questions.append((one, other))
    return tuple(questions)
