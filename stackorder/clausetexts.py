"""Fractions and clauses as strings."""

CHUNK_DIGITS = 60
CHUNK = 10 ** 60


def integer_text(integer):
    if integer < 0:
        return f"-{integer_text(-integer)}"
    # Python refuses to write integers of thousands of digits at once, and long chains lead to them.
    chunks = []
    while integer >= CHUNK:
        chunks.append(str(integer % CHUNK).zfill(CHUNK_DIGITS))
        integer = integer // CHUNK
    return str(integer) + "".join(reversed(chunks))


def fraction_text(fraction):
    numerator, denominator = fraction
    if denominator == 1:
        return integer_text(numerator)
    return f"{integer_text(numerator)}/{integer_text(denominator)}"


def clause_text(clause):
    return ",".join(["-" if part is None else fraction_text(part) for part in clause])
