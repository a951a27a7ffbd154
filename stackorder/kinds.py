"""Which values are integers, numbers, names, fractions and clauses. Any value may be asked about."""

from math import gcd

from stackorder.fractions import compared

MOST_LETTERS = 8


def is_integer(thing):
    # A bool is an int to Python, but True differs from 1 everywhere here.
    return isinstance(thing, int) and not isinstance(thing, bool)


def is_number(thing):
    return is_integer(thing) and thing >= 0


def is_name(thing):
    if not isinstance(thing, str) or not 1 <= len(thing) <= MOST_LETTERS:
        return False
    return all(["a" <= letter <= "z" for letter in thing])


def are_names(thing):
    """Whether the value is a tuple of names, possibly empty."""
    return isinstance(thing, tuple) and all([is_name(name) for name in thing])


def is_row(thing, size):
    """Whether the value is a tuple of exactly so many elements."""
    return isinstance(thing, tuple) and len(thing) == size


def is_fraction(thing):
    if not is_row(thing, 2) or not is_integer(thing[0]) or not is_integer(thing[1]):
        return False
    return thing[1] >= 1 and gcd(thing[0], thing[1]) == 1


def is_factor(thing):
    """Whether the value is a fraction that is at least 0."""
    return is_fraction(thing) and thing[0] >= 0


def is_bound(thing):
    """Whether the value is a fraction, or None for no bound."""
    return thing is None or is_fraction(thing)


def is_clause(thing):
    if not is_row(thing, 4):
        return False
    factor, plus, low, high = thing
    if not is_factor(factor) or not is_fraction(plus) or not is_bound(low) or not is_bound(high):
        return False
    if factor == (0, 1):
        return low is None and high is None
    return low is None or high is None or compared(low, high) < 0
