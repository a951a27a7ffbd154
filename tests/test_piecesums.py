import unittest
from itertools import product

from stackorder.clauses import chained
from stackorder.kinds import is_fraction
from stackorder.piecesums import above_at, are_pieces, greatest_of, least_of, pieces_after, pieces_of, value_at
from tests.helpers import AMOUNTS, BIG, CAP, ODD_VALUES, clause_samples, clause_value, exact, nested, pair_of, pieces_value

IDENTITY = ((None, (1, 1), (0, 1)),)
STAIRS = ((None, (0, 1), (-2, 1)), ((0, 1), (1, 1), (-2, 1)), ((3, 1), (0, 1), (1, 1)), ((4, 1), (2, 1), (-7, 1)))
HILL = ((None, (1, 2), (1, 1)), ((-2, 1), (3, 1), (6, 1)), ((1, 1), (1, 3), (26, 3)))
FLAT = ((None, (0, 1), (7, 1)),)
CLAUSES = clause_samples()
FUNCTIONS = [IDENTITY, STAIRS, HILL, FLAT, *[pieces_of(clause) for clause in CLAUSES[::6]], pieces_of(CLAUSES[-1])]


def probes(*functions):
    """Amounts at all begins of the functions, between them, and far out on both sides."""
    begins = sorted({exact(piece[0]) for pieces in functions for piece in pieces if piece[0] is not None})
    found = [exact(amount) for amount in AMOUNTS] + begins
    found += [(one + other) / 2 for one, other in zip(begins, begins[1:])]
    for begin in begins:
        found += [begin - 1, begin + 1, begin - 10 ** 9, begin + 10 ** 9]
    return [pair_of(amount) for amount in found]


class ArePieces(unittest.TestCase):
    def test_pieces(self):
        for pieces in FUNCTIONS:
            self.assertIs(are_pieces(pieces), True)
        self.assertIs(are_pieces(((None, (BIG, 1), (-BIG, 1)),)), True)

    def test_other_values(self):
        for value in (*ODD_VALUES, nested(30), (), [], list(IDENTITY), (IDENTITY,), ((),), (None, (1, 1), (0, 1))):
            self.assertIs(are_pieces(value), False)

    def test_the_first_begin_is_none_and_no_other(self):
        self.assertIs(are_pieces((((0, 1), (1, 1), (0, 1)),)), False)
        self.assertIs(are_pieces(STAIRS[1:]), False)
        self.assertIs(are_pieces((STAIRS[0], (None,) + STAIRS[1][1:], *STAIRS[2:])), False)
        self.assertIs(are_pieces((STAIRS[0], *IDENTITY)), False)

    def test_a_part_removed(self):
        for pieces in (STAIRS, HILL):
            for k in range(len(pieces) - 1):
                self.assertIs(are_pieces(pieces[:k] + pieces[k + 1:]), False)
            self.assertIs(are_pieces(pieces[:-1]), True)
            for k, piece in enumerate(pieces):
                for j in range(3):
                    self.assertIs(are_pieces(pieces[:k] + (piece[:j] + piece[j + 1:],) + pieces[k + 1:]), False)
                self.assertIs(are_pieces(pieces[:k] + (piece + (None,),) + pieces[k + 1:]), False)
                self.assertIs(are_pieces(pieces[:k] + (list(piece),) + pieces[k + 1:]), False)

    def test_a_part_repeated_or_exchanged(self):
        for pieces in (STAIRS, HILL):
            for k in range(len(pieces)):
                self.assertIs(are_pieces(pieces[:k] + pieces[k:k + 1] + pieces[k:]), False)
                for j in range(k):
                    changed = list(pieces)
                    changed[j], changed[k] = changed[k], changed[j]
                    self.assertIs(are_pieces(tuple(changed)), False)

    def test_neighbours_with_equal_factors(self):
        self.assertIs(are_pieces((IDENTITY[0], ((5, 1), (1, 1), (0, 1)))), False)
        self.assertIs(are_pieces((FLAT[0], ((5, 1), (0, 1), (7, 1)))), False)
        self.assertIs(are_pieces(STAIRS[:3] + (((7, 2), (0, 1), (1, 1)),) + STAIRS[3:]), False)

    def test_begins_ascend_by_value(self):
        # All of these lines meet in one point, so only the begins tell that the middle piece is out of place.
        self.assertIs(are_pieces((IDENTITY[0], ((0, 1), (2, 1), (0, 1)), ((0, 1), (3, 1), (0, 1)))), False)
        self.assertIs(are_pieces((IDENTITY[0], ((10, 1), (2, 1), (-10, 1)), ((5, 1), (0, 1), (0, 1)))), False)
        self.assertIs(are_pieces((IDENTITY[0], ((10, 1), (0, 1), (10, 1)), ((9, 1), (1, 1), (1, 1)))), False)
        self.assertIs(are_pieces((IDENTITY[0], ((1, 3), (2, 1), (-1, 3)), ((1, 2), (0, 1), (2, 3)))), True)

    def test_borders_agree(self):
        self.assertIs(are_pieces((IDENTITY[0], ((5, 1), (2, 1), (-5, 1)))), True)
        self.assertIs(are_pieces((IDENTITY[0], ((5, 1), (2, 1), (-4, 1)))), False)
        self.assertIs(are_pieces((IDENTITY[0], ((4, 1), (2, 1), (-5, 1)))), False)
        self.assertIs(are_pieces(STAIRS[:3] + (((4, 1), (2, 1), (-6, 1)),)), False)

    def test_factors_are_at_least_zero(self):
        self.assertIs(are_pieces(((None, (-1, 1), (0, 1)),)), False)
        self.assertIs(are_pieces((FLAT[0], ((7, 1), (-1, 1), (14, 1)))), False)

    def test_elements_of_another_kind(self):
        for k, piece in enumerate(STAIRS):
            for j in range(3):
                for other in (1, True, "0", (2, 4), (1, 0), [1, 1], (True, 1), (), "-"):
                    changed = piece[:j] + (other,) + piece[j + 1:]
                    self.assertIs(are_pieces(STAIRS[:k] + (changed,) + STAIRS[k + 1:]), False)
        self.assertIs(are_pieces(((None, None, (0, 1)),)), False)
        self.assertIs(are_pieces(((None, (1, 1), None),)), False)

    def test_by_name(self):
        self.assertIs(are_pieces(thing=STAIRS), True)
        self.assertIs(are_pieces(thing=()), False)


class Values(unittest.TestCase):
    def test_value_at(self):
        for pieces in FUNCTIONS:
            for amount in probes(pieces):
                value = value_at(pieces, amount)
                self.assertEqual(value, pieces_value(pieces, amount))
                self.assertIs(is_fraction(value), True)

    def test_begins_between_and_outside(self):
        found = [value_at(STAIRS, (x, 2)) for x in (-99, -1, 1, 5, 7, 9, 99)]
        self.assertEqual(found, [(-2, 1), (-2, 1), (-3, 2), (1, 2), (1, 1), (2, 1), (92, 1)])
        self.assertEqual([value_at(STAIRS, (x, 1)) for x in (0, 3, 4)], [(-2, 1), (1, 1), (1, 1)])

    def test_by_name(self):
        self.assertEqual(value_at(pieces=FLAT, amount=(1, 2)), (7, 1))
        self.assertEqual(value_at(amount=(1, 2), pieces=IDENTITY), (1, 2))


class Clauses(unittest.TestCase):
    def test_pieces_of(self):
        for clause in CLAUSES:
            pieces = pieces_of(clause)
            self.assertIs(are_pieces(pieces), True)
            for amount in probes(pieces):
                self.assertEqual(pieces_value(pieces, amount), clause_value(clause, amount))

    def test_forms(self):
        self.assertEqual(pieces_of(((1, 1), (0, 1), None, None)), IDENTITY)
        self.assertEqual(pieces_of(((0, 1), (7, 1), None, None)), FLAT)
        self.assertEqual(pieces_of(((2, 1), (1, 1), (5, 1), (9, 1))),
                         ((None, (0, 1), (5, 1)), ((2, 1), (2, 1), (1, 1)), ((4, 1), (0, 1), (9, 1))))
        self.assertEqual(pieces_of(((2, 1), (1, 1), (6, 1), None)), ((None, (0, 1), (6, 1)), ((5, 2), (2, 1), (1, 1))))

    def test_pieces_after(self):
        for clause, pieces in product(CLAUSES, FUNCTIONS):
            after = pieces_after(clause, pieces)
            self.assertIs(are_pieces(after), True)
            for amount in probes(pieces, after):
                self.assertEqual(pieces_value(after, amount), clause_value(clause, pieces_value(pieces, amount)))

    def test_chains(self):
        for one, other in product(CLAUSES[::2], CLAUSES[::3]):
            self.assertEqual(pieces_after(other, pieces_of(one)), pieces_of(chained(one, other)))

    def test_by_name(self):
        clause = ((2, 1), (1, 1), None, None)
        self.assertEqual(pieces_of(clause=clause), ((None, (2, 1), (1, 1)),))
        self.assertEqual(pieces_after(pieces=FLAT, clause=clause), ((None, (0, 1), (15, 1)),))


class LeastAndGreatest(unittest.TestCase):
    def assertChosen(self, functions):
        least, greatest = least_of(*functions), greatest_of(*functions)
        self.assertIs(are_pieces(least), True)
        self.assertIs(are_pieces(greatest), True)
        for amount in probes(least, greatest, *functions):
            values = [exact(pieces_value(pieces, amount)) for pieces in functions]
            self.assertEqual(pieces_value(least, amount), pair_of(min(values)))
            self.assertEqual(pieces_value(greatest, amount), pair_of(max(values)))

    def test_one(self):
        for pieces in FUNCTIONS:
            self.assertEqual([least_of(pieces), greatest_of(pieces)], [pieces, pieces])

    def test_two(self):
        for functions in product(FUNCTIONS, repeat=2):
            self.assertChosen(functions)

    def test_three(self):
        for functions in product(FUNCTIONS[1:6], FUNCTIONS[::2], FUNCTIONS[1::3]):
            self.assertChosen(functions)

    def test_many(self):
        self.assertChosen(FUNCTIONS)

    def test_the_same_several_times(self):
        for pieces in FUNCTIONS:
            self.assertEqual([least_of(pieces, pieces), greatest_of(pieces, pieces, pieces)], [pieces, pieces])

    def test_the_order_of_the_functions_does_not_matter(self):
        for one, other in product(FUNCTIONS, repeat=2):
            self.assertEqual(least_of(one, other), least_of(other, one))
            self.assertEqual(greatest_of(one, other), greatest_of(other, one))

    def test_parts_in_one_line_are_one_piece(self):
        low, high = pieces_of(((1, 1), (0, 1), None, (5, 1))), pieces_of(((1, 1), (0, 1), (5, 1), None))
        self.assertEqual(greatest_of(low, IDENTITY), IDENTITY)
        self.assertEqual(least_of(high, IDENTITY), IDENTITY)
        self.assertEqual(least_of(low, high), low)

    def test_functions_that_only_touch(self):
        bent = ((None, (1, 2), (0, 1)), ((0, 1), (1, 1), (0, 1)))
        self.assertEqual([least_of(bent, IDENTITY), greatest_of(bent, IDENTITY)], [IDENTITY, bent])

    def test_crossing_far_out(self):
        slow = ((None, (10 ** 6 - 1, 10 ** 6), (10 ** 12, 1)),)
        crossing = (10 ** 18, 1)
        self.assertEqual(least_of(slow, IDENTITY), (IDENTITY[0], (crossing, *slow[0][1:])))
        self.assertEqual(greatest_of(IDENTITY, slow), (slow[0], (crossing, *IDENTITY[0][1:])))

    def test_example(self):
        self.assertEqual(greatest_of(pieces_of(CAP), ((None, (0, 1), (7, 1)),)),
                         ((None, (0, 1), (7, 1)), ((7, 1), (1, 1), (0, 1)), ((20, 1), (0, 1), (20, 1))))


class Above(unittest.TestCase):
    def test_above_at(self):
        for one, other in product(FUNCTIONS, repeat=2):
            amount = above_at(one, other)
            if amount is None:
                self.assertEqual(greatest_of(one, other), other)
                for probe in probes(one, other):
                    self.assertLessEqual(exact(pieces_value(one, probe)), exact(pieces_value(other, probe)))
            else:
                self.assertIs(is_fraction(amount), True)
                self.assertGreater(exact(pieces_value(one, amount)), exact(pieces_value(other, amount)))

    def test_none(self):
        lower = ((None, (1, 1), (-1, 10 ** 6)),)
        for one, other in ((IDENTITY, IDENTITY), (lower, IDENTITY), (STAIRS, STAIRS), (FLAT, FLAT),
                           (IDENTITY, ((None, (1, 2), (0, 1)), ((0, 1), (1, 1), (0, 1))))):
            self.assertIsNone(above_at(one, other) if one == other else above_at(least_of(one, other), other))
        self.assertIsNone(above_at(lower, IDENTITY))

    def test_only_far_to_one_side(self):
        steep = ((None, (10 ** 6 + 1, 10 ** 6), (0, 1)),)
        for one, other in ((steep, ((None, (1, 1), (10 ** 12, 1)),)), (((None, (1, 1), (-(10 ** 12), 1)),), steep)):
            amount = above_at(one, other)
            self.assertGreater(exact(pieces_value(one, amount)), exact(pieces_value(other, amount)))

    def test_only_in_a_short_part(self):
        bump = ((None, (0, 1), (0, 1)), ((1, 1), (1, 1), (-1, 1)), ((2, 1), (0, 1), (1, 1)))
        bound = ((None, (0, 1), (0, 1)), ((1, 1), (1, 2), (-1, 2)), ((3, 1), (0, 1), (1, 1)))
        amount = above_at(bump, bound)
        self.assertGreater(exact(pieces_value(bump, amount)), exact(pieces_value(bound, amount)))
        self.assertIsNone(above_at(bound, bump))

    def test_by_name(self):
        self.assertIsNone(above_at(one=FLAT, other=FLAT))
        self.assertIsNotNone(above_at(other=FLAT, one=IDENTITY))
