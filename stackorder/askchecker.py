"""The checkers of ask papers and deny papers. Nodes are numbered in preorder."""

from stackorder.amounttables import check_table, is_amount_table
from stackorder.errors import InvalidPaper
from stackorder.follows import follows_of
from stackorder.kinds import is_row
from stackorder.orders import is_legal
from stackorder.outcomes import questions_of
from stackorder.plankinds import is_pair_of_names
from stackorder.settlechecker import have_equal_outcomes, is_pair_of_orders

MOST_NODES = 10


def is_ask_node(thing, most):
    """Whether the value has the shape of a node, with at most so many nodes on every way from it."""
    if most == 0:
        return False
    if is_row(thing, 2):
        return thing[0] == "told" and is_amount_table(thing[1])
    if not is_row(thing, 4) or thing[0] != "ask" or not is_pair_of_names(thing[1]):
        return False
    return all([below is None or is_ask_node(below, most - 1) for below in thing[2:]])


def is_joint(plan, answer):
    """Whether the answer agrees with some legal order of the plan."""
    return answer[::-1] not in follows_of(plan)


def answered(plan, answer):
    """The plan with the answer, which may be decided in it already."""
    rules, pairs = plan
    return (rules, tuple(sorted(set(pairs + (answer,)))))


def check_ask_node(plan, amount, questions, node, i):
    """Checks the node with the number i and those below it; plan is the plan with the answers on the way.

    Returns the depth of the node and the number behind the nodes below it.
    """
    if node[0] == "told":
        check_table(plan, amount, node[1], i)
        return (0, i + 1)
    _, question, one, other = node
    if question not in questions:
        raise InvalidPaper("question", i)
    branches = ((question, one), (question[::-1], other))
    if not all([is_joint(plan, answer) == (below is not None) for answer, below in branches]):
        raise InvalidPaper("none", i)
    deepest = 0
    behind = i + 1
    for answer, below in branches:
        if below is not None:
            depth, behind = check_ask_node(answered(plan, answer), amount, questions, below, behind)
            deepest = max(deepest, depth)
    return (deepest + 1, behind)


def lets_ask(plan, amount, thing):
    if not is_ask_node(thing, MOST_NODES):
        raise InvalidPaper("shape", -1)
    return check_ask_node(plan, amount, questions_of(plan), thing, 0)[0]


def is_deny_row(thing, size):
    return is_row(thing, 2) and is_pair_of_names(thing[0]) and is_deny_node(thing[1], size)


def is_deny_node(thing, size):
    """Whether the value has the shape of a node for the size."""
    if size == 0:
        return is_pair_of_orders(thing)
    return isinstance(thing, tuple) and all([is_deny_row(row, size - 1) for row in thing])


def check_deny_pair(plan, amount, pair, i):
    one, other = pair
    if not is_legal(plan, one) or not is_legal(plan, other):
        raise InvalidPaper("orders", i)
    if have_equal_outcomes(plan, amount, one, other):
        raise InvalidPaper("same", i)


def check_deny_node(plan, amount, size, node, i):
    """Checks the node with the number i and those below it; returns the number behind them."""
    if size == 0:
        check_deny_pair(plan, amount, node, i)
        return i + 1
    # With the answers on the way as pairs, the questions of the plan are those with two joint answers.
    if node == () or [tuple(sorted(answer)) for answer, _ in node] != list(questions_of(plan)):
        raise InvalidPaper("answers", i)
    behind = i + 1
    for answer, below in node:
        behind = check_deny_node(answered(plan, answer), amount, size - 1, below, behind)
    return behind


def lets_deny(plan, amount, size, thing):
    if not is_deny_node(thing, size):
        raise InvalidPaper("shape", -1)
    check_deny_node(plan, amount, size, thing, 0)
    return True
