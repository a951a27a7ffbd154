"""The ways from each start to the next smaller ones: what is known of all starts is built along them."""

from stackorder.follows import active_names, clauses_of
from stackorder.starts import last_names, needs_of, starts_of, without


def ways_of(plan):
    """A dict from each start, ascending, to its rows (rest, name, clause), a row for each last rule, ascending.

    The last rule has the name and the clause; rest is the start without it.
    """
    needs = needs_of(plan)
    clauses = clauses_of(plan)
    ways = {}
    for start in starts_of(plan):
        ways[start] = [(without(start, name), name, clauses[name]) for name in last_names(needs, start)]
    return ways


def longer_starts(ways):
    """The list of all starts but (); each comes behind its rests."""
    return sorted(ways, key=len)[1:]


def starts_within(ways, start):
    """The list of the starts that have no rules but those of the start; each comes behind its rests."""
    return sorted([part for part in ways if all([name in start for name in part])], key=len)


def number_of_orders(plan):
    """The number of the legal orders; they are counted, not listed, for there can be very many."""
    ways = ways_of(plan)
    numbers = {(): 1}
    for start in longer_starts(ways):
        numbers[start] = sum([numbers[rest] for rest, _, _ in ways[start]])
    return numbers[active_names(plan)]
