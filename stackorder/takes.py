"""What can stand before a rule, and what the rule can take of it or add to it."""

from stackorder.clauses import applied
from stackorder.errors import UnknownName
from stackorder.follows import active_names, clauses_of
from stackorder.fractions import ascending, difference
from stackorder.outcomes import values_made
from stackorder.ways import ways_of


def values_before(plan, amount, name):
    if name not in active_names(plan):
        raise UnknownName(name)
    ways = ways_of(plan)
    made = values_made(ways, amount)
    rests = [rest for start in ways for rest, last, _ in ways[start] if last == name]
    return tuple(ascending([value for rest in rests for value in made[rest]]))


def take_of(plan, amount, name):
    values = values_before(plan, amount, name)
    clause = clauses_of(plan)[name]
    changes = ascending([difference(applied(clause, value), value) for value in values])
    return (changes[0], changes[-1])
