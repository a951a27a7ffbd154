"""The checker of gap papers."""

from stackorder.boundchecker import lets_bound
from stackorder.clauses import applied
from stackorder.errors import InvalidPaper
from stackorder.fractions import difference
from stackorder.gaps import widest_gap
from stackorder.kinds import are_names, is_fraction, is_row
from stackorder.orders import chain_of, is_legal


def is_gap_shape(thing):
    return is_row(thing, 5) and is_fraction(thing[0]) and are_names(thing[1]) and are_names(thing[2])


def lets_bound_within(plan, paper, part, greatest):
    """What lets_bound returns for a part of the paper; an error tells which part it is."""
    try:
        return lets_bound(plan, paper, greatest=greatest)
    except InvalidPaper as error:
        raise InvalidPaper(error.word, (part, error.at)) from None


def lets_gap(plan, thing):
    if not is_gap_shape(thing):
        raise InvalidPaper("shape", -1)
    amount, low, high, least_paper, greatest_paper = thing
    for word, order in (("low", low), ("high", high)):
        if not is_legal(plan, order):
            raise InvalidPaper(word, -1)
    least = lets_bound_within(plan, least_paper, 0, False)
    greatest = lets_bound_within(plan, greatest_paper, 1, True)
    gap = difference(applied(chain_of(plan, high), amount), applied(chain_of(plan, low), amount))
    if gap != widest_gap(least, greatest)[0]:
        raise InvalidPaper("gap", -1)
    return gap
