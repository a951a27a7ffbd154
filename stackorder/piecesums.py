"""Pieces (begin, factor, plus): continuous functions of straight parts that never decrease."""

from stackorder.clauses import line_value
from stackorder.fractions import ascending, compared, difference, fraction_product, fraction_sum, quotient
from stackorder.kinds import is_factor, is_fraction, is_row

IDENTITY_PIECES = ((None, (1, 1), (0, 1)),)


def constant_pieces(amount):
    return ((None, (0, 1), amount),)


def is_piece(thing):
    if not is_row(thing, 3):
        return False
    begin, factor, plus = thing
    return (begin is None or is_fraction(begin)) and is_factor(factor) and is_fraction(plus)


def are_neighbours(before, piece):
    """Whether the second piece can stand behind the first one."""
    begin, factor, plus = piece
    if begin is None or factor == before[1]:
        return False
    if before[0] is not None and compared(before[0], begin) >= 0:
        return False
    return line_value(before[1], before[2], begin) == line_value(factor, plus, begin)


def are_pieces(thing):
    if not isinstance(thing, tuple) or not all([is_piece(piece) for piece in thing]):
        return False
    if len(thing) == 0 or thing[0][0] is not None:
        return False
    return all([are_neighbours(thing[k - 1], thing[k]) for k in range(1, len(thing))])


def value_at(pieces, amount):
    here = pieces[0]
    for piece in pieces[1:]:
        if compared(piece[0], amount) <= 0:
            here = piece
    return line_value(here[1], here[2], amount)


def joined(pieces):
    """The form of a continuous function: pieces in one line with the piece before are left out."""
    kept = [pieces[0]]
    for piece in pieces[1:]:
        if piece[1] != kept[-1][1]:
            kept.append(piece)
    return tuple(kept)


def common_rows(one, other):
    """Rows (begin, piece of one, piece of other), a row for each begin of either function."""
    begins = ascending([piece[0] for piece in one + other if piece[0] is not None])
    rows = [(None, one[0], other[0])]
    i = 0
    j = 0
    for begin in begins:
        if i + 1 < len(one) and one[i + 1][0] == begin:
            i += 1
        if j + 1 < len(other) and other[j + 1][0] == begin:
            j += 1
        rows.append((begin, one[i], other[j]))
    return rows


def crossing_of(piece, other):
    """Where the lines of two pieces meet, or None if they are parallel."""
    if piece[1] == other[1]:
        return None
    return quotient(difference(other[2], piece[2]), difference(piece[1], other[1]))


def is_inside(begin, amount, end):
    """Whether the amount lies between begin and end and is neither; None is no end."""
    if begin is not None and compared(begin, amount) >= 0:
        return False
    return end is None or compared(amount, end) < 0


def ends_of(rows):
    """Where each of the rows ends: where the next one begins, or None for the last one."""
    return [row[0] for row in rows[1:]] + [None]


def crossed_rows(one, other):
    """The common rows, cut also where the functions cross."""
    rows = common_rows(one, other)
    cut = []
    for (begin, piece, beside), end in zip(rows, ends_of(rows)):
        cut.append((begin, piece, beside))
        crossing = crossing_of(piece, beside)
        if crossing is not None and is_inside(begin, crossing, end):
            cut.append((crossing, piece, beside))
    return cut


def amount_inside(begin, end):
    """An amount between begin and end that is neither."""
    if begin is None:
        return (0, 1) if end is None else difference(end, (1, 1))
    if end is None:
        return fraction_sum(begin, (1, 1))
    return fraction_product(fraction_sum(begin, end), (1, 2))


def signs_inside(rows):
    """For each crossed row an amount inside it, and how the first piece compares with the second there.

    The pieces do not cross inside a row, so they compare like this in all of it.
    """
    signs = []
    for (begin, piece, beside), end in zip(rows, ends_of(rows)):
        amount = amount_inside(begin, end)
        value = line_value(piece[1], piece[2], amount)
        signs.append((amount, compared(value, line_value(beside[1], beside[2], amount))))
    return signs


def chosen_pair(one, other, sign):
    """The least (sign -1) or the greatest (sign 1) of two functions."""
    rows = crossed_rows(one, other)
    pieces = []
    for (begin, piece, beside), (_, found) in zip(rows, signs_inside(rows)):
        _, factor, plus = piece if found == sign else beside
        pieces.append((begin, factor, plus))
    return joined(pieces)


def chosen(functions, sign):
    best = functions[0]
    for function in functions[1:]:
        best = chosen_pair(best, function, sign)
    return best


def least_of(*functions):
    return chosen(functions, -1)


def greatest_of(*functions):
    return chosen(functions, 1)


def moved_piece(piece, factor, plus):
    """The piece after a multiplication and then an addition."""
    return (piece[0], fraction_product(factor, piece[1]), line_value(factor, plus, piece[2]))


def pieces_after(clause, pieces):
    factor, plus, low, high = clause
    if factor == (0, 1):
        return constant_pieces(plus)
    moved = tuple([moved_piece(piece, factor, plus) for piece in pieces])
    if low is not None:
        moved = greatest_of(moved, constant_pieces(low))
    if high is not None:
        moved = least_of(moved, constant_pieces(high))
    return moved


def pieces_of(clause):
    return pieces_after(clause, IDENTITY_PIECES)


def above_at(one, other):
    for amount, sign in signs_inside(crossed_rows(one, other)):
        if sign > 0:
            return amount
    return None
