"""The amounts for which all legal orders have the same outcome."""

from stackorder.bounds import greatest_at, greatest_pieces, least_at, least_pieces
from stackorder.piecesums import common_rows, ends_of, value_at


def equal_parts(one, other):
    """The intervals, ascending, in which two functions are equal; they do not cross inside a common row."""
    rows = common_rows(one, other)
    parts = []
    for (begin, piece, beside), end in zip(rows, ends_of(rows)):
        if piece[1:] == beside[1:]:
            parts.append((begin, end))
        elif begin is not None and value_at(one, begin) == value_at(other, begin):
            parts.append((begin, begin))
    return parts


def joined_parts(parts):
    """The fewest intervals with the amounts of the ascending intervals."""
    kept = []
    for low, high in parts:
        if kept and kept[-1][1] == low:
            kept[-1] = (kept[-1][0], high)
        else:
            kept.append((low, high))
    return tuple(kept)


def sure_amounts(plan):
    return joined_parts(equal_parts(least_pieces(plan), greatest_pieces(plan)))


def is_sure_at(plan, amount):
    return least_at(plan, amount)[0] == greatest_at(plan, amount)[0]
