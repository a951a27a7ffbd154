"""Fractions and clauses read from strings."""

from stackorder.clausetexts import fraction_text
from stackorder.errors import InvalidText
from stackorder.fractions import compared
from stackorder.kinds import is_fraction

MOST_DIGITS = 60
NO_BOUND = "-"
CLAUSE_PARTS = 4


def are_digits(text):
    return 1 <= len(text) <= MOST_DIGITS and all(["0" <= digit <= "9" for digit in text])


def fraction_or_none(text):
    """The fraction that the string writes, or None if it writes none."""
    numerator, slash, denominator = text.partition("/")
    if slash == "":
        denominator = "1"
    if not are_digits(numerator.removeprefix("-")) or not are_digits(denominator):
        return None
    value = (int(numerator), int(denominator))
    # Writing it again finds leading zeros, a minus before zero, and a denominator 1 that is written.
    if is_fraction(value) and fraction_text(value) == text:
        return value
    return None


def fraction_read(text):
    value = fraction_or_none(text)
    if value is None:
        raise InvalidText(0, 0)
    return value


def can_follow(values, part):
    """Whether some clause is written with the parts of these values and then this part."""
    field = len(values)
    if field == CLAUSE_PARTS:
        return False
    value = fraction_or_none(part)
    if value is None:
        return field >= 2 and part == NO_BOUND
    if field == 0:
        return value[0] >= 0
    if field == 1:
        return True
    if values[0] == (0, 1):
        return False
    return field == 2 or values[2] is None or compared(values[2], value) < 0


def clause_read(text, *, line=0):
    values = []
    for field, part in enumerate(text.split(",")):
        if not can_follow(values, part):
            raise InvalidText(line, field)
        # A part that can follow and is no fraction says that there is no bound.
        values.append(fraction_or_none(part))
    if len(values) < CLAUSE_PARTS:
        raise InvalidText(line, len(values))
    return tuple(values)
