"""The checker of receipt papers: it follows the ways of the plan, whoever wrote the paper."""

from stackorder.errors import InvalidPaper
from stackorder.follows import active_names, clauses_of
from stackorder.kinds import are_names, is_fraction, is_row
from stackorder.orders import is_legal
from stackorder.outcomes import made_along
from stackorder.receipts import allowed_ones, misfit_at
from stackorder.ways import ways_of


def is_value_row(thing):
    if not is_row(thing, 2) or not are_names(thing[0]) or not isinstance(thing[1], tuple):
        return False
    return all([is_fraction(value) for value in thing[1]])


def is_receipt_shape(thing):
    if not is_row(thing, 2):
        return False
    if thing[0] == "fits":
        return are_names(thing[1])
    return thing[0] == "none" and isinstance(thing[1], tuple) and all([is_value_row(row) for row in thing[1]])


def check_fits(plan, receipt, order):
    if not is_legal(plan, order):
        raise InvalidPaper("order", -1)
    position = misfit_at(clauses_of(plan), receipt, order)
    if position is not None:
        raise InvalidPaper("value", position)


def check_none(plan, receipt, table):
    ways = ways_of(plan)
    active = active_names(plan)
    if [start for start, _ in table] != list(ways):
        raise InvalidPaper("starts", -1)
    given = {start: values for start, values in table}
    for j, start in enumerate(ways):
        values = [receipt[0]] if start == () else made_along(ways, given, start)
        allowed = allowed_ones(receipt, len(active), len(start), values)
        if not all([value in given[start] for value in allowed]):
            raise InvalidPaper("values", j)
    if given[active] != ():
        raise InvalidPaper("end", -1)


def lets_receipt(plan, receipt, thing):
    if not is_receipt_shape(thing):
        raise InvalidPaper("shape", -1)
    word, shown = thing
    if word == "fits":
        check_fits(plan, receipt, shown)
    else:
        check_none(plan, receipt, shown)
    return word
