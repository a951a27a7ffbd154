"""Gap papers: where two orders differ most, with bound papers that no two orders differ more."""

from stackorder.boundpapers import bound_paper
from stackorder.gaps import largest_gap


def gap_paper(plan):
    _, amount, low, high = largest_gap(plan)
    return (amount, low, high, bound_paper(plan), bound_paper(plan, greatest=True))
