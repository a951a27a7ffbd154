"""The checker of sure papers: it follows the ways of the plan, whoever wrote the paper."""

from stackorder.clauses import applied, chained
from stackorder.errors import InvalidPaper
from stackorder.follows import active_names, clauses_of
from stackorder.intervals import EVERYTHING, bounds_clause, is_covered, is_interval, made_of, seen_through
from stackorder.kinds import are_names, is_fraction, is_row
from stackorder.orders import chain_of, is_legal
from stackorder.starts import grown, needs_of, next_names, starts_of


def is_interval_row(thing):
    if not is_row(thing, 2) or not are_names(thing[0]) or not isinstance(thing[1], tuple):
        return False
    return all([is_interval(interval) for interval in thing[1]])


def is_interval_table(thing):
    return isinstance(thing, tuple) and all([is_interval_row(row) for row in thing])


def is_open_shape(thing):
    if not is_row(thing, 4) or thing[0] != "open":
        return False
    return is_fraction(thing[1]) and are_names(thing[2]) and are_names(thing[3])


def is_sure_shape(thing):
    return is_row(thing, 3) and thing[0] == "sure" and is_interval_table(thing[1]) and is_interval_table(thing[2])


def check_open(plan, amount, first, second):
    for word, order in (("first", first), ("second", second)):
        if not is_legal(plan, order):
            raise InvalidPaper(word, -1)
    if applied(chain_of(plan, first), amount) == applied(chain_of(plan, second), amount):
        raise InvalidPaper("same", -1)


def check_ends(plan, arrivals, views):
    """Checks what the tables are about, and that everything arrives at the begin and is seen at the end."""
    starts = list(starts_of(plan))
    for word, table in (("arrivals", arrivals), ("views", views)):
        if [start for start, _ in table] != starts:
            raise InvalidPaper(word, -1)
    if EVERYTHING not in dict(arrivals)[()]:
        raise InvalidPaper("begin", -1)
    if EVERYTHING not in dict(views)[active_names(plan)]:
        raise InvalidPaper("end", -1)


def check_steps(clauses, arriving, seen, start, names, k):
    """Checks that each next rule leads from the intervals of the start to intervals behind it, and back."""
    for j, name in enumerate(names):
        longer = grown(start, name)
        made = [made_of(clauses[name], interval) for interval in arriving[start]]
        if not all([is_covered(interval, arriving[longer]) for interval in made]):
            raise InvalidPaper("arrives", (k, j))
        through = [seen_through(clauses[name], interval) for interval in seen[longer]]
        if not all([interval is None or is_covered(interval, seen[start]) for interval in through]):
            raise InvalidPaper("seen", (k, j))


def is_noticed(one, other, arriving, seen):
    """Whether some arriving amount shows, by what is seen, which of the two clauses comes first."""
    for interval in arriving:
        for view in seen:
            ahead = bounds_clause(interval)
            ending = bounds_clause(view)
            if chained(ahead, one, other, ending) != chained(ahead, other, one, ending):
                return True
    return False


def check_exchanges(clauses, arriving, seen, start, names, k):
    for i, one in enumerate(names):
        for j in range(i + 1, len(names)):
            other = names[j]
            both = grown(grown(start, one), other)
            if is_noticed(clauses[one], clauses[other], arriving[start], seen[both]):
                raise InvalidPaper("noticed", (k, i, j))


def check_sure(plan, arrivals, views):
    check_ends(plan, arrivals, views)
    needs = needs_of(plan)
    clauses = clauses_of(plan)
    arriving = dict(arrivals)
    seen = dict(views)
    for k, start in enumerate(arriving):
        names = next_names(needs, start)
        check_steps(clauses, arriving, seen, start, names, k)
        check_exchanges(clauses, arriving, seen, start, names, k)


def lets_sure(plan, thing):
    if is_open_shape(thing):
        _, amount, first, second = thing
        check_open(plan, amount, first, second)
        return "open"
    if not is_sure_shape(thing):
        raise InvalidPaper("shape", -1)
    _, arrivals, views = thing
    check_sure(plan, arrivals, views)
    return "sure"
