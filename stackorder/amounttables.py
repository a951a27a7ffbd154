"""Bound tables for an amount: a low and a high value for each start, which no order of its rules passes."""

from stackorder.bounds import GREATEST, LEAST
from stackorder.clauses import applied
from stackorder.errors import InvalidPaper
from stackorder.follows import active_names
from stackorder.fractions import compared
from stackorder.kinds import are_names, is_fraction, is_row
from stackorder.outcomes import values_made
from stackorder.ways import ways_of


def amount_table(plan, amount):
    """The bound table with the greatest lows and the least highs; it is closed if there is only one outcome."""
    ways = ways_of(plan)
    made = values_made(ways, amount)
    return tuple([(start, made[start][0], made[start][-1]) for start in ways])


def is_amount_row(thing):
    return is_row(thing, 3) and are_names(thing[0]) and is_fraction(thing[1]) and is_fraction(thing[2])


def is_amount_table(thing):
    """Whether the value has the shape of a bound table."""
    return isinstance(thing, tuple) and all([is_amount_row(row) for row in thing])


def is_passed(ways, amount, values, start, sign):
    """Whether the value of the start is no bound: something passes it, below (sign -1) or above (sign 1)."""
    if start == ():
        return values[start] != amount
    made = [applied(clause, values[rest]) for rest, _, clause in ways[start]]
    return any([compared(value, values[start]) == sign for value in made])


def check_table(plan, amount, table, i):
    """Checks a value with the shape of a bound table, which has the number i in its paper; it must be closed."""
    ways = ways_of(plan)
    if [start for start, _, _ in table] != list(ways):
        raise InvalidPaper("starts", i)
    lows = {start: low for start, low, _ in table}
    highs = {start: high for start, _, high in table}
    for j, start in enumerate(ways):
        if is_passed(ways, amount, lows, start, LEAST):
            raise InvalidPaper("low", (i, j))
        if is_passed(ways, amount, highs, start, GREATEST):
            raise InvalidPaper("high", (i, j))
    active = active_names(plan)
    if lows[active] != highs[active]:
        raise InvalidPaper("open", i)
