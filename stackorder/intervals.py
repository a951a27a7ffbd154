"""Intervals (low, high) of amounts, None for no end: what clauses make of them and what is seen behind clauses."""

from stackorder.clauses import chained, clause_of, moved_bound, turns_of, values_of
from stackorder.fractions import ascending, compared
from stackorder.kinds import is_bound, is_row

EVERYTHING = (None, None)


def is_interval(thing):
    if not is_row(thing, 2) or not is_bound(thing[0]) or not is_bound(thing[1]):
        return False
    low, high = thing
    return low is None or high is None or compared(low, high) <= 0


def contains(outer, inner):
    """Whether all amounts of the inner interval are in the outer one."""
    if outer[0] is not None and (inner[0] is None or compared(inner[0], outer[0]) < 0):
        return False
    return outer[1] is None or (inner[1] is not None and compared(inner[1], outer[1]) <= 0)


def is_covered(interval, intervals):
    """Whether one of the intervals contains the interval."""
    return any([contains(outer, interval) for outer in intervals])


def ordered(intervals):
    """The tuple of the distinct intervals, by low (None first), then by high (None last)."""
    ends = ascending([end for interval in intervals for end in interval if end is not None])
    ranks = {end: rank for rank, end in enumerate(ends)}
    found = {}
    for low, high in intervals:
        found[(ranks.get(low, -1), ranks.get(high, len(ends)))] = (low, high)
    return tuple([found[place] for place in sorted(found)])


def bounds_clause(interval):
    """The clause that bounds every amount by the ends of the interval."""
    return clause_of(low=interval[0], high=interval[1])


def made_of(clause, interval):
    """The interval of what the clause makes of the amounts of the interval."""
    least, greatest = values_of(clause)
    return (moved_bound(interval[0], clause, least), moved_bound(interval[1], clause, greatest))


def seen_interval(clause):
    """The interval by which amounts can be bounded before the clause unseen; None for a constant clause."""
    return None if clause[0] == (0, 1) else turns_of(clause)


def seen_through(clause, interval):
    """What is seen of the amounts before the clause if the interval is seen of those after it."""
    return seen_interval(chained(clause, bounds_clause(interval)))
