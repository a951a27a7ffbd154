"""Sure papers: two orders with different outcomes, or tables in which no exchange is noticed."""

from stackorder.arrivals import arrivals_at, views_after
from stackorder.exchanges import exchanges_noticed, noticed
from stackorder.starts import starts_of


def sure_paper(plan):
    # All amounts are sure exactly if no exchange is noticed.
    exchanges = exchanges_noticed(plan)
    if exchanges:
        start, one, other = exchanges[0]
        amount, first, second = noticed(plan, start, one, other)
        return ("open", amount, first, second)
    starts = starts_of(plan)
    arrivals = tuple([(start, arrivals_at(plan, start)) for start in starts])
    views = tuple([(start, views_after(plan, start)) for start in starts])
    return ("sure", arrivals, views)
