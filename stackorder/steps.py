"""Which values are steps: a word and the parts behind it. Any value may be asked about."""

from stackorder.kinds import is_clause, is_fraction, is_name

# The kinds of the parts behind the word of each step.
PART_KINDS = {
    "add": ("name", "clause"),
    "drop": ("name",),
    "switch": ("name", "bool"),
    "before": ("name", "name"),
    "unbefore": ("name", "name"),
    "amount": ("fraction",),
}


def is_part(kind, thing):
    if kind == "name":
        return is_name(thing)
    if kind == "clause":
        return is_clause(thing)
    if kind == "bool":
        return isinstance(thing, bool)
    return is_fraction(thing)


def is_step(thing):
    if not isinstance(thing, tuple) or len(thing) == 0 or not isinstance(thing[0], str):
        return False
    kinds = PART_KINDS.get(thing[0])
    if kinds is None or len(thing) != len(kinds) + 1:
        return False
    return all([is_part(kind, part) for kind, part in zip(kinds, thing[1:])])
