import unittest
from itertools import combinations, permutations, product

from stackorder.clauses import (
    applied, chained, clause_of, commute, differs_at, normal_form, order_matters, values_of,
)
from stackorder.errors import UnknownName
from stackorder.kinds import is_clause, is_fraction
from tests.helpers import AMOUNTS, BIG, chain_value, clause_samples, clause_value, exact

IDENTITY = ((1, 1), (0, 1), None, None)
SAMPLES = clause_samples()
FEW = SAMPLES[::5] + SAMPLES[-4:] + [IDENTITY]


def constant(value):
    return ((0, 1), value, None, None)


class NormalForms(unittest.TestCase):
    def test_every_form_is_a_clause_for_its_function(self):
        bounds = (None, (-3, 1), (0, 1), (2, 1), (7, 2))
        for factor, plus, low, high in product(((0, 1), (1, 3), (1, 1), (5, 2)), ((-5, 1), (0, 1), (7, 2)), bounds, bounds):
            if low is not None and high is not None and exact(low) > exact(high):
                continue
            clause = normal_form(factor, plus, low=low, high=high)
            self.assertIs(is_clause(clause), True)
            for amount in AMOUNTS:
                self.assertEqual(clause_value(clause, amount), clause_value((factor, plus, low, high), amount))

    def test_factor_zero_is_the_bounded_value(self):
        zero = (0, 1)
        self.assertEqual(normal_form(zero, (5, 1)), constant((5, 1)))
        self.assertEqual(normal_form(zero, (5, 1), low=(7, 1)), constant((7, 1)))
        self.assertEqual(normal_form(zero, (5, 1), high=(3, 1)), constant((3, 1)))
        self.assertEqual(normal_form(zero, (5, 1), low=(3, 1), high=(9, 1)), constant((5, 1)))
        self.assertEqual(normal_form(zero, (5, 1), low=(6, 1), high=(6, 1)), constant((6, 1)))
        self.assertEqual(normal_form(zero, (5, 1), low=(5, 1)), constant((5, 1)))

    def test_equal_bounds_are_constant(self):
        self.assertEqual(normal_form((3, 1), (5, 1), low=(1, 2), high=(1, 2)), constant((1, 2)))

    def test_other_bounds_stay(self):
        for low, high in ((None, None), ((1, 1), None), (None, (1, 1)), ((1, 1), (2, 1))):
            self.assertEqual(normal_form((3, 1), (5, 1), low=low, high=high), ((3, 1), (5, 1), low, high))

    def test_by_name(self):
        self.assertEqual(normal_form(factor=(2, 1), plus=(1, 1)), ((2, 1), (1, 1), None, None))
        self.assertEqual(normal_form(high=(9, 1), plus=(1, 1), factor=(2, 1)), ((2, 1), (1, 1), None, (9, 1)))
        with self.assertRaises(TypeError):
            normal_form((2, 1), (1, 1), (0, 1), (9, 1))

    def test_example(self):
        self.assertEqual(normal_form((2, 1), (1, 1), low=(5, 1), high=(5, 1)), ((0, 1), (5, 1), None, None))


class ClauseOf(unittest.TestCase):
    WORTHS = {"factor": (3, 1), "plus": (5, 1), "low": (-2, 1), "high": (7, 1)}

    def test_each_choice_of_names(self):
        for size in range(5):
            for names in combinations(self.WORTHS, size):
                named = {name: self.WORTHS[name] for name in names}
                missing = dict(zip(self.WORTHS, IDENTITY))
                self.assertEqual(clause_of(**named), tuple({**missing, **named}.values()))

    def test_none_is_no_bound(self):
        self.assertEqual(clause_of(low=None, high=None), IDENTITY)

    def test_it_is_a_normal_form(self):
        self.assertEqual(clause_of(factor=(0, 1), plus=(9, 1), high=(7, 1)), constant((7, 1)))
        self.assertEqual(clause_of(factor=(0, 1)), constant((0, 1)))
        self.assertEqual(clause_of(low=(7, 1), high=(7, 1)), constant((7, 1)))

    def test_unknown_names(self):
        for named, first in (({"zeta": 1, "alpha": 2}, "alpha"), ({"factor": (1, 1), "more": 1}, "more"),
                             ({"b": 1, "plus": (1, 1), "ab": 1}, "ab"), ({"Low": 1, "lows": 2, "low": 3}, "Low"),
                             ({"name": 1}, "name"), ({"clause": 1, "named": 2}, "clause"), ({"self": None}, "self")):
            with self.assertRaises(UnknownName) as raised:
                clause_of(**named)
            self.assertEqual(raised.exception.name, first)


class Chains(unittest.TestCase):
    def test_applied(self):
        for clause, amount in product(SAMPLES, AMOUNTS):
            value = applied(clause, amount)
            self.assertEqual(value, clause_value(clause, amount))
            self.assertIs(is_fraction(value), True)

    def test_none_and_one(self):
        self.assertEqual(chained(), IDENTITY)
        for clause in SAMPLES:
            self.assertEqual(chained(clause), clause)

    def test_two_apply_the_first_one_first(self):
        for one, other in product(SAMPLES[::2] + SAMPLES[-4:], repeat=2):
            chain = chained(one, other)
            self.assertIs(is_clause(chain), True)
            for amount in AMOUNTS:
                self.assertEqual(clause_value(chain, amount), chain_value((one, other), amount))

    def test_several(self):
        for clauses in product(FEW[::3], repeat=4):
            chain = chained(*clauses)
            self.assertIs(is_clause(chain), True)
            for amount in AMOUNTS[::3]:
                self.assertEqual(clause_value(chain, amount), chain_value(clauses, amount))

    def test_associative(self):
        for one, two, three in product(FEW[::2], repeat=3):
            self.assertEqual(chained(chained(one, two), three), chained(one, chained(two, three)))

    def test_the_identity_changes_nothing(self):
        for clause in SAMPLES:
            self.assertEqual([chained(IDENTITY, clause), chained(clause, IDENTITY)], [clause, clause])

    def test_never_less_of_a_greater_amount(self):
        for clause in SAMPLES:
            values = [exact(applied(clause, amount)) for amount in AMOUNTS]
            self.assertEqual(values, sorted(values))

    def test_bounds_that_meet_make_a_constant(self):
        floor, cap = clause_of(low=(10, 1)), clause_of(high=(5, 1))
        self.assertEqual([chained(floor, cap), chained(cap, floor)], [constant((5, 1)), constant((10, 1))])
        self.assertEqual(chained(clause_of(high=(5, 1)), clause_of(low=(5, 1))), constant((5, 1)))

    def test_twice_is_not_once(self):
        self.assertEqual(chained(((2, 1), (1, 1), None, (9, 1)), ((2, 1), (1, 1), None, (9, 1))), ((4, 1), (3, 1), None, (9, 1)))

    def test_large(self):
        clause = ((BIG, 1), (-BIG, 1), None, None)
        self.assertEqual(applied(clause, (1, 1)), (0, 1))
        self.assertEqual(chained(clause, clause)[0], (BIG ** 2, 1))

    def test_by_name(self):
        self.assertEqual(applied(clause=((2, 1), (1, 1), None, None), amount=(3, 1)), (7, 1))
        self.assertEqual(applied(amount=(3, 1), clause=((2, 1), (1, 1), None, None)), (7, 1))

    def test_example(self):
        chain = chained(clause_of(plus=(-3, 1)), clause_of(factor=(2, 1), high=(10, 1)))
        self.assertEqual(chain, ((2, 1), (-6, 1), None, (10, 1)))


class Comparisons(unittest.TestCase):
    def test_differs_at(self):
        for one, other in product(SAMPLES, repeat=2):
            amount = differs_at(one, other)
            if one == other:
                self.assertIsNone(amount)
            else:
                self.assertIs(is_fraction(amount), True)
                self.assertNotEqual(clause_value(one, amount), clause_value(other, amount))

    def test_differs_far_out(self):
        one = ((1, 1), (0, 1), None, (10 ** 12, 1))
        other = ((1, 1), (0, 1), None, (10 ** 12 + 1, 1))
        for first, second in ((one, other), (other, one), (one, IDENTITY), (constant((0, 1)), constant((1, 10 ** 6)))):
            amount = differs_at(first, second)
            self.assertNotEqual(clause_value(first, amount), clause_value(second, amount))

    def test_differs_only_between_the_bounds(self):
        one = ((1, 1), (0, 1), (0, 1), (1, 10 ** 6))
        other = ((2, 1), (0, 1), (0, 1), (1, 10 ** 6))
        amount = differs_at(one, other)
        self.assertNotEqual(clause_value(one, amount), clause_value(other, amount))

    def test_commute(self):
        for one, other in product(SAMPLES[::3] + SAMPLES[-4:], repeat=2):
            same = chained(one, other) == chained(other, one)
            self.assertIs(commute(one, other), same)
            if not same:
                amount = differs_at(chained(one, other), chained(other, one))
                self.assertNotEqual(chain_value((one, other), amount), chain_value((other, one), amount))

    def test_what_commutes(self):
        add, less = clause_of(plus=(5, 1)), clause_of(plus=(-3, 1))
        double, third = clause_of(factor=(2, 1)), clause_of(factor=(1, 3))
        self.assertIs(commute(add, less), True)
        self.assertIs(commute(double, third), True)
        self.assertIs(commute(add, double), False)
        self.assertIs(commute(clause_of(low=(1, 1), high=(5, 1)), clause_of(low=(5, 1))), True)
        self.assertIs(commute(clause_of(low=(1, 1), high=(5, 1)), clause_of(low=(6, 1))), False)
        self.assertIs(commute(clause_of(low=(1, 1)), clause_of(low=(6, 1))), True)
        self.assertIs(commute(constant((1, 1)), constant((2, 1))), False)
        self.assertIs(commute(constant((0, 1)), double), True)

    def test_order_matters(self):
        for clauses in [*product(FEW[::2], repeat=3), *combinations(FEW[::3], 4)]:
            matters = any(chained(*order) != chained(*clauses) for order in permutations(clauses))
            self.assertIs(order_matters(*clauses), matters)

    def test_order_matters_edges(self):
        double, five = clause_of(factor=(2, 1)), clause_of(plus=(5, 1))
        self.assertIs(order_matters(), False)
        self.assertIs(order_matters(five), False)
        self.assertIs(order_matters(double, five), True)
        self.assertIs(order_matters(five, double), True)
        self.assertIs(order_matters(five, five, five, five, double), True)
        self.assertIs(order_matters(five, five, five, five, five), False)
        self.assertIs(order_matters(five, constant((0, 1)), constant((0, 1))), True)

    def test_order_can_matter_only_far_from_the_given_order(self):
        # The first two commute, and so do the last two: only an order that moves the ends differs.
        floor, cap, low = clause_of(low=(0, 1)), clause_of(high=(5, 1)), clause_of(low=(9, 1))
        self.assertEqual([commute(floor, cap), commute(floor, low)], [True, True])
        self.assertIs(order_matters(cap, floor, low), True)

    def test_values_of(self):
        for clause in SAMPLES:
            low, high = values_of(clause)
            if clause[0] == (0, 1):
                self.assertEqual((low, high), (clause[1], clause[1]))
            else:
                self.assertEqual((low, high), clause[2:])
            for amount in AMOUNTS:
                value = exact(applied(clause, amount))
                self.assertTrue(low is None or exact(low) <= value)
                self.assertTrue(high is None or value <= exact(high))

    def test_by_name(self):
        one, other = clause_of(factor=(2, 1)), clause_of(plus=(5, 1))
        self.assertIsNone(differs_at(one=one, other=one))
        self.assertIsNotNone(differs_at(other=other, one=one))
        self.assertIs(commute(one=one, other=other), False)
        self.assertEqual(values_of(clause=one), (None, None))

    def test_example(self):
        double, five = clause_of(factor=(2, 1)), clause_of(plus=(5, 1))
        found = [commute(double, five), order_matters(five, five, five), values_of(clause_of(low=(0, 1)))]
        self.assertEqual(found, [False, False, ((0, 1), None)])
