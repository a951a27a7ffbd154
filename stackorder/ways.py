"""The ways from each start to the next smaller ones: what is known of all starts is built along them."""

from stackorder.follows import clauses_of
from stackorder.starts import last_names, needs_of, starts_of, without


def ways_of(plan):
    """A dict from each start, ascending, to its rows (rest, name, clause), a row for each last rule, ascending.

    The last rule has the name and the clause; rest is the start without it.
    """
    needs = needs_of(plan)
    clauses = clauses_of(plan)
    ways = {}
    for start in starts_of(plan):
        ways[start] = [(without(start, name), name, clauses[name]) for name in last_names(needs, start)]
    return ways


def starts_within(ways, start):
    """The list of the starts that have no rules but those of the start; each comes behind its rests."""
    return sorted([part for part in ways if all([name in start for name in part])], key=len)
