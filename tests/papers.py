"""What the papers about one amount have to say, found by trying all orders with Python's own fractions.

Each function .._error returns the first error (word, at) of a value as a paper, or None if it is one.
"""

import unittest
from functools import cache
from itertools import product

from stackorder.errors import InvalidPaper
from stackorder.kinds import is_fraction, is_name
from tests.helpers import chain_value, clause_value, exact, follows_by_squaring, orders_by_trying, starts_by_trying

follows_of_plan = cache(follows_by_squaring)
orders_of_plan = cache(lambda plan: tuple(orders_by_trying(plan)))
starts_of_plan = cache(starts_by_trying)


@cache
def outcomes_of_plan(plan, amount):
    """A dict from each legal order to its outcome."""
    clauses = {name: clause for name, clause, _ in plan[0]}
    return {order: chain_value([clauses[name] for name in order], amount) for order in orders_of_plan(plan)}


@cache
def questions_by_trying(plan):
    """The pairs of active rules that stand in both orders."""
    names = [name for name, _, is_on in plan[0] if is_on]
    pairs = [(one, other) for one in names for other in names if one < other]
    orders = orders_of_plan(plan)
    return tuple(pair for pair in pairs if {agrees(order, [pair]) for order in orders} == {True, False})


def agrees(order, answers):
    return all(order.index(first) < order.index(second) for first, second in answers)


def are_joint(plan, answers):
    return any(agrees(order, answers) for order in orders_of_plan(plan))


def with_answers(plan, answers):
    return (plan[0], tuple(sorted({*plan[1], *answers})))


def choices_of(plan, questions):
    """All joint choices of one answer for each question, ascending."""
    choices = product(*[(question, question[::-1]) for question in questions])
    return sorted(choice for choice in choices if are_joint(plan, choice))


def lasts_of(plan, start):
    return [name for name in start if not any((name, other) in follows_of_plan(plan) for other in start)]


def rest_of(start, name):
    return tuple(other for other in start if other != name)


def is_row(thing, size):
    return isinstance(thing, tuple) and len(thing) == size


def is_tuple_of(thing, kind):
    return isinstance(thing, tuple) and all(kind(part) for part in thing)


def is_order(thing):
    return is_tuple_of(thing, is_name)


def is_pair(thing):
    return is_row(thing, 2) and is_order(thing)


def is_two_orders(thing):
    return is_row(thing, 2) and is_tuple_of(thing, is_order)


def is_table(thing):
    return is_tuple_of(thing, lambda row: is_row(row, 3) and is_order(row[0]) and is_fraction(row[1]) and is_fraction(row[2]))


def table_error(plan, amount, table, i):
    """The first error of a closed bound table for the plan, which is a plan with answers."""
    starts = starts_of_plan(plan)
    if tuple(row[0] for row in table) != starts:
        return ("starts", i)
    clauses = {name: clause for name, clause, _ in plan[0]}
    rows = {start: (low, high) for start, low, high in table}
    for j, start in enumerate(starts):
        rests = [(clauses[name], rest_of(start, name)) for name in lasts_of(plan, start)]
        lows = [clause_value(clause, rows[rest][0]) for clause, rest in rests]
        highs = [clause_value(clause, rows[rest][1]) for clause, rest in rests]
        low, high = rows[start]
        if not all(exact(low) <= exact(value) for value in lows) or (start == () and low != amount):
            return ("low", (i, j))
        if not all(exact(high) >= exact(value) for value in highs) or (start == () and high != amount):
            return ("high", (i, j))
    low, high = rows[max(starts, key=len)]
    return None if low == high else ("open", i)


def is_settle_shape(thing):
    return (is_row(thing, 3) and is_tuple_of(thing[0], is_pair)
            and is_tuple_of(thing[1], lambda row: is_row(row, 2) and is_tuple_of(row[0], is_pair) and is_table(row[1]))
            and is_tuple_of(thing[2], is_two_orders))


def settle_error(plan, amount, thing):
    if not is_settle_shape(thing):
        return ("shape", -1)
    questions, rows, reasons = thing
    if questions != tuple(sorted(set(questions) & set(questions_by_trying(plan)))):
        return ("questions", -1)
    if [answers for answers, _ in rows] != choices_of(plan, questions):
        return ("rows", -1)
    for i, (answers, table) in enumerate(rows):
        error = table_error(with_answers(plan, answers), amount, table, i)
        if error:
            return error
    if len(reasons) != len(questions):
        return ("reasons", -1)
    outcomes = outcomes_of_plan(plan, amount)
    for i, (one, other) in enumerate(reasons):
        if one not in outcomes or other not in outcomes:
            return ("orders", i)
        if any(agrees(one, [question]) != agrees(other, [question]) for question in rest_of(questions, questions[i])):
            return ("orders", i)
        if outcomes[one] == outcomes[other]:
            return ("same", i)
    return None


def is_ask_shape(thing, most=10):
    if most == 0 or not isinstance(thing, tuple) or thing[:1] not in (("told",), ("ask",)):
        return False
    if thing[0] == "told":
        return len(thing) == 2 and is_table(thing[1])
    return len(thing) == 4 and is_pair(thing[1]) and all(part is None or is_ask_shape(part, most - 1) for part in thing[2:])


def ask_nodes(node, answers=()):
    """The nodes in preorder, each with the answers on the way."""
    if node is not None:
        yield (node, answers)
        if node[0] == "ask":
            yield from ask_nodes(node[2], answers + (node[1],))
            yield from ask_nodes(node[3], answers + (node[1][::-1],))


def ask_error(plan, amount, thing):
    if not is_ask_shape(thing):
        return ("shape", -1)
    for i, (node, answers) in enumerate(ask_nodes(thing)):
        if node[0] == "told":
            error = table_error(with_answers(plan, answers), amount, node[1], i)
            if error:
                return error
        else:
            if node[1] not in questions_by_trying(plan):
                return ("question", i)
            for answer, below in ((node[1], node[2]), (node[1][::-1], node[3])):
                if are_joint(plan, answers + (answer,)) != (below is not None):
                    return ("none", i)
    return None


def ask_depth(node):
    if node is None or node[0] == "told":
        return 0
    return 1 + max(ask_depth(node[2]), ask_depth(node[3]))


def is_deny_shape(thing, size):
    if size == 0:
        return is_two_orders(thing)
    return is_tuple_of(thing, lambda row: is_row(row, 2) and is_pair(row[0]) and is_deny_shape(row[1], size - 1))


def deny_nodes(node, size, answers=()):
    yield (node, size, answers)
    if size > 0:
        for answer, below in node:
            yield from deny_nodes(below, size - 1, answers + (answer,))


def deny_error(plan, amount, size, thing):
    if not is_deny_shape(thing, size):
        return ("shape", -1)
    outcomes = outcomes_of_plan(plan, amount)
    for i, (node, left, answers) in enumerate(deny_nodes(thing, size)):
        if left > 0:
            open_ones = questions_by_trying(with_answers(plan, answers))
            if node == () or tuple(tuple(sorted(answer)) for answer, _ in node) != open_ones:
                return ("answers", i)
        elif not all(order in outcomes and agrees(order, answers) for order in node):
            return ("orders", i)
        elif outcomes[node[0]] == outcomes[node[1]]:
            return ("same", i)
    return None


def needed_by_trying(plan, amount, questions=None):
    """The least number of questions, out of all ways to ask these questions, or all of them."""
    outcomes = outcomes_of_plan(plan, amount)
    questions = questions_by_trying(plan) if questions is None else questions

    @cache
    def suffices(orders, number):
        if len({outcomes[order] for order in orders}) <= 1:
            return True
        if number == 0:
            return False
        parts = [[frozenset(order for order in orders if agrees(order, [answer])) for answer in (question, question[::-1])]
                 for question in questions]
        return any(all(suffices(part, number - 1) for part in both) for both in parts)

    return min(number for number in range(len(questions) + 1) if suffices(frozenset(outcomes), number))


def allows(plan, receipt, k, value):
    many = sum(is_on for _, _, is_on in plan[0])
    return (k != many or value == receipt[1]) and dict(receipt[2]).get(k, value) == value


def values_of_order(plan, amount, order):
    """The values of the amount after none of the rules, after one of them, and so on."""
    clauses = {name: clause for name, clause, _ in plan[0]}
    return [chain_value([clauses[name] for name in order[:k]], amount) for k in range(len(order) + 1)]


def fitting_by_trying(plan, receipt):
    return [order for order in orders_of_plan(plan)
            if all(allows(plan, receipt, k, value) for k, value in enumerate(values_of_order(plan, receipt[0], order)))]


def receipt_error(plan, receipt, thing):
    if not is_row(thing, 2) or thing[0] not in ("fits", "none"):
        return ("shape", -1)
    if thing[0] == "fits":
        return order_error(plan, receipt, thing[1])
    if not is_tuple_of(thing[1], lambda row: is_row(row, 2) and is_order(row[0]) and is_tuple_of(row[1], is_fraction)):
        return ("shape", -1)
    starts = starts_of_plan(plan)
    if tuple(start for start, _ in thing[1]) != starts:
        return ("starts", -1)
    clauses = {name: clause for name, clause, _ in plan[0]}
    rows = dict(thing[1])
    for j, start in enumerate(starts):
        made = [clause_value(clauses[name], value) for name in lasts_of(plan, start) for value in rows[rest_of(start, name)]]
        made += [receipt[0]] if start == () else []
        if any(allows(plan, receipt, len(start), value) and value not in rows[start] for value in made):
            return ("values", j)
    return None if rows[max(starts, key=len)] == () else ("end", -1)


def order_error(plan, receipt, order):
    if not is_order(order):
        return ("shape", -1)
    if order not in orders_of_plan(plan):
        return ("order", -1)
    values = values_of_order(plan, receipt[0], order)
    wrong = [k for k, value in enumerate(values) if not allows(plan, receipt, k, value)]
    return ("value", wrong[0]) if wrong else None


def changed(row, k, value):
    return row[:k] + (value,) + row[k + 1:]


def places_of(thing, way=()):
    """The ways of indexes to all parts of nested tuples, the value itself first."""
    yield way
    if isinstance(thing, tuple):
        for k, part in enumerate(thing):
            yield from places_of(part, way + (k,))


def part_at(thing, way):
    for k in way:
        thing = thing[k]
    return thing


def put_at(thing, way, part):
    return part if way == () else changed(thing, way[0], put_at(thing[way[0]], way[1:], part))


def spoiled(random, thing, others):
    """The value with one of its parts changed, left out, repeated, or exchanged with another part."""
    places = list(places_of(thing))
    way = random.choice(places)
    part = part_at(thing, way)
    if is_fraction(part):
        value = exact(part) + random.choice((-7, -1, 1, 3)) * random.choice((1, exact((1, 3))))
        return put_at(thing, way, (value.numerator, value.denominator))
    if isinstance(part, tuple) and part and random.random() < 0.6:
        k = random.randrange(len(part))
        j = random.randrange(len(part))
        swapped = changed(changed(part, k, part[j]), j, part[k])
        return put_at(thing, way, random.choice((part[:k] + part[k + 1:], part[:k] + part[k:k + 1] + part[k:], swapped,
                                                 part[::-1])))
    if random.random() < 0.7:
        return put_at(thing, way, part_at(thing, random.choice(places)))
    return put_at(thing, way, random.choice(others))


class PaperCase(unittest.TestCase):
    def assertRefused(self, word, at, check, *args, **named):
        with self.assertRaises(InvalidPaper) as caught:
            check(*args, **named)
        self.assertEqual((caught.exception.word, caught.exception.at), (word, at))
        self.assertEqual(repr(caught.exception.at), repr(at))

    def assertLike(self, error, expected, check, *args):
        """The checker raises the error, or returns what is expected if the error is None; returns the word."""
        if error is None:
            self.assertEqual(check(*args), expected)
            return None
        self.assertRefused(*error, check, *args)
        return error[0]
