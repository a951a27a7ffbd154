"""Which values have the shape of a plan. Any value may be asked about."""

from stackorder.kinds import is_clause, is_name, is_row


def is_pair_of_names(thing):
    return is_row(thing, 2) and is_name(thing[0]) and is_name(thing[1])


def are_pairs_of_names(thing):
    """Whether the value is a tuple of pairs of names, possibly empty."""
    return isinstance(thing, tuple) and all([is_pair_of_names(pair) for pair in thing])


def is_rule(thing):
    return is_row(thing, 3) and is_name(thing[0]) and is_clause(thing[1]) and isinstance(thing[2], bool)


def has_plan_shape(thing):
    if not is_row(thing, 2) or not isinstance(thing[0], tuple):
        return False
    return all([is_rule(rule) for rule in thing[0]]) and are_pairs_of_names(thing[1])
