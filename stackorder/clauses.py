"""Clauses (factor, plus, low, high): what they make of amounts, and how they chain."""

from itertools import permutations

from stackorder.errors import UnknownName
from stackorder.fractions import ascending, compared, difference, fraction_product, fraction_sum, quotient

UNCHANGED = ((1, 1), (0, 1), None, None)
CLAUSE_NAMES = ("factor", "plus", "low", "high")


def bounded(amount, low, high):
    """The amount, but at least low and at most high; None is no bound."""
    if low is not None and compared(amount, low) < 0:
        return low
    if high is not None and compared(amount, high) > 0:
        return high
    return amount


def constant_clause(amount):
    """The clause that makes this amount of every amount."""
    return ((0, 1), amount, None, None)


def normal_form(factor, plus, *, low=None, high=None):
    if factor == (0, 1):
        return constant_clause(bounded(plus, low, high))
    if low is not None and low == high:
        return constant_clause(low)
    return (factor, plus, low, high)


def clause_of(**named):
    for name in sorted(named):
        if name not in CLAUSE_NAMES:
            raise UnknownName(name)
    factor, plus, low, high = [named.get(part, worth) for part, worth in zip(CLAUSE_NAMES, UNCHANGED)]
    return normal_form(factor, plus, low=low, high=high)


def line_value(factor, plus, amount):
    """What factor and plus make of the amount, without bounds."""
    return fraction_sum(fraction_product(factor, amount), plus)


def applied(clause, amount):
    factor, plus, low, high = clause
    return bounded(line_value(factor, plus, amount), low, high)


def moved_bound(bound, clause, missing):
    """Where the clause moves a bound of the clause before it; missing is its own bound on that side."""
    return missing if bound is None else applied(clause, bound)


def chained_pair(first, second):
    """The chain of two clauses. Its bounds are those of first after second, or those of second."""
    plus = line_value(second[0], second[1], first[1])
    low = moved_bound(first[2], second, second[2])
    high = moved_bound(first[3], second, second[3])
    return normal_form(fraction_product(first[0], second[0]), plus, low=low, high=high)


def chained(*clauses):
    chain = UNCHANGED
    for clause in clauses:
        chain = chained_pair(chain, clause)
    return chain


def turns_of(clause):
    """The pair of amounts at which the clause meets its low and its high bound; None for no bound."""
    factor, plus, low, high = clause
    turns = [None if bound is None else quotient(difference(bound, plus), factor) for bound in (low, high)]
    return tuple(turns)


def differs_at(one, other):
    # Between the turns both clauses are straight. If they agreed at the turns, and at one more
    # amount on either side, they would agree everywhere.
    found = [turn for turn in turns_of(one) + turns_of(other) if turn is not None]
    turns = ascending([(0, 1), *found])
    before = difference(turns[0], (1, 1))
    behind = fraction_sum(turns[-1], (1, 1))
    for amount in [before, *turns, behind]:
        if applied(one, amount) != applied(other, amount):
            return amount
    return None


def commute(one, other):
    return chained(one, other) == chained(other, one)


def order_matters(*clauses):
    chain = chained(*clauses)
    for order in permutations(clauses):
        if chained(*order) != chain:
            return True
    return False


def values_of(clause):
    factor, plus, low, high = clause
    if factor == (0, 1):
        return (plus, plus)
    return (low, high)
