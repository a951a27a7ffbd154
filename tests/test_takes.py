import unittest

from stackorder.errors import PlanError, UnknownName
from stackorder.follows import active_names
from stackorder.kinds import is_fraction
from stackorder.takes import take_of, values_before
from tests.helpers import chain_value, clause_value, exact, pair_of
from tests.papers import orders_of_plan
from tests.plans import CUT, FOUR, HALF, LESS, OFF, SALE, five_plans, plan_of, small_plans
from tests.test_outcomes import PLAN

AMOUNTS = ((-7, 2), (0, 1), (5, 1), (40, 3), (10 ** 12, 999983))


def before_by_trying(plan, amount, name):
    """The values before the rule, as fractions of Python, ascending."""
    clauses = {rule: clause for rule, clause, _ in plan[0]}
    ahead = {order[:order.index(name)] for order in orders_of_plan(plan)}
    return sorted({exact(chain_value([clauses[rule] for rule in names], amount)) for names in ahead})


def take_by_trying(plan, amount, name):
    clause = dict((rule, clause) for rule, clause, _ in plan[0])[name]
    changes = [exact(clause_value(clause, pair_of(value))) - value for value in before_by_trying(plan, amount, name)]
    return (pair_of(min(changes)), pair_of(max(changes)))


class Takes(unittest.TestCase):
    def test_against_all_orders(self):
        for plan in small_plans() + five_plans():
            for amount in AMOUNTS:
                for name in active_names(plan):
                    values = values_before(plan, amount, name)
                    self.assertIsInstance(values, tuple)
                    self.assertTrue(all(is_fraction(value) for value in values))
                    self.assertEqual(values, tuple(pair_of(value) for value in before_by_trying(plan, amount, name)))
                    take = take_of(plan, amount, name)
                    self.assertIsInstance(take, tuple)
                    self.assertEqual(take, take_by_trying(plan, amount, name))

    def test_ascending_by_value(self):
        # Neither by numerators nor by pairs.
        plan = plan_of({"a": ((1, 3), (0, 1), None, None), "b": ((1, 1), (-3, 2), None, None), "c": FOUR})
        self.assertEqual(values_before(plan, (5, 1), "c"), ((1, 6), (7, 6), (5, 3), (7, 2), (5, 1)))
        self.assertNotEqual(sorted(values_before(plan, (5, 1), "c")), list(values_before(plan, (5, 1), "c")))

    def test_a_value_that_several_orders_make_stands_once(self):
        plan = plan_of({"a": LESS, "b": LESS, "c": CUT})
        self.assertEqual(values_before(plan, (20, 1), "c"), ((14, 1), (17, 1), (20, 1)))

    def test_the_least_change_is_not_at_the_least_value(self):
        plan = plan_of({"a": ((1, 1), (30, 1), None, None), "half": HALF})
        self.assertEqual(values_before(plan, (10, 1), "half"), ((10, 1), (40, 1)))
        self.assertEqual(take_of(plan, (10, 1), "half"), ((-20, 1), (-5, 1)))
        # Neither the least nor the greatest change is at an end of the values.
        hump = ((2, 1), (-10, 1), None, (20, 1))
        plan = plan_of({"a": ((1, 1), (10, 1), None, None), "b": ((1, 1), (5, 1), None, None), "hump": hump})
        self.assertEqual(values_before(plan, (5, 1), "hump"), ((5, 1), (10, 1), (15, 1), (20, 1)))
        self.assertEqual(take_of(plan, (5, 1), "hump"), ((-5, 1), (5, 1)))
        self.assertEqual(take_of(plan, (6, 1), "hump"), take_by_trying(plan, (6, 1), "hump"))
        inside = plan_of({"a": ((1, 1), (10, 1), None, None), "b": ((1, 1), (20, 1), None, None), "hump": hump})
        self.assertEqual(take_of(inside, (5, 1), "hump"), ((-15, 1), (5, 1)))

    def test_what_must_stand_before(self):
        self.assertEqual(values_before((SALE[0], (("cut", "off"),)), (20, 1), "off"), ((15, 1),))
        self.assertEqual(values_before((SALE[0], (("off", "cut"),)), (20, 1), "off"), ((20, 1),))
        through = plan_of({"a": CUT, "b": FOUR, "c": OFF}, (("a", "b"), ("b", "c")), "b")
        self.assertEqual(values_before(through, (20, 1), "a"), ((20, 1),))
        self.assertEqual(values_before(through, (20, 1), "c"), ((15, 1),))
        self.assertEqual(take_of(through, (20, 1), "c"), ((-3, 2), (-3, 2)))
        self.assertEqual(take_of(plan_of({"a": CUT}), (3, 1), "a"), ((-3, 1), (-3, 1)))

    def test_unknown_names(self):
        plan = plan_of({"a": CUT, "b": FOUR, "c": OFF}, (("a", "b"), ("b", "c")), "b")
        for given in (plan, ((), ()), SALE):
            for name in ("b", "zzz", "", "A", "cutoff"):
                for ask in (values_before, take_of):
                    with self.assertRaises(UnknownName) as caught:
                        ask(given, (5, 1), name)
                    self.assertIs(caught.exception.name, name)
                    self.assertIsInstance(caught.exception, PlanError)

    def test_by_name(self):
        self.assertEqual(values_before(name="off", amount=(20, 1), plan=SALE), ((15, 1), (20, 1)))
        self.assertEqual(take_of(name="off", amount=(20, 1), plan=SALE), ((-2, 1), (-3, 2)))

    def test_example(self):
        self.assertEqual(values_before(PLAN, (5, 1), "cap"), ((5, 1), (10, 1), (15, 1), (20, 1), (30, 1)))
        self.assertEqual(take_of(PLAN, (5, 1), "cap"), ((-15, 1), (0, 1)))
