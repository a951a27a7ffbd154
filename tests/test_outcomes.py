import unittest

from stackorder.bounds import greatest_at, least_at
from stackorder.follows import active_names
from stackorder.kinds import is_fraction
from stackorder.outcomes import outcomes_of, questions_of
from tests.helpers import AMOUNTS, chain_value, exact, follows_by_squaring, named_plan, orders_by_trying, pair_of, plan_samples
from tests.plans import ADD, CAP, CUT, FOUR, HUGE, OFF, SALE, TINY, five_plans, plan_of, random_plan, small_plans

DBL, TEN = ((2, 1), (0, 1), None, None), ((1, 1), (10, 1), None, None)
PLAN = ((("cap", ((1, 1), (0, 1), None, (15, 1)), True), ("dbl", DBL, True), ("ten", TEN, True)), ())


def outcomes_by_trying(plan, amount):
    """A dict from each legal order to its outcome."""
    clauses = {name: clause for name, clause, _ in plan[0]}
    return {order: chain_value([clauses[name] for name in order], amount) for order in orders_by_trying(plan)}


class Outcomes(unittest.TestCase):
    def test_against_all_orders(self):
        for plan in small_plans() + five_plans():
            for amount in AMOUNTS:
                outcomes = outcomes_of(plan, amount)
                self.assertIsInstance(outcomes, tuple)
                self.assertTrue(all(is_fraction(outcome) for outcome in outcomes))
                expected = sorted({exact(value) for value in outcomes_by_trying(plan, amount).values()})
                self.assertEqual(outcomes, tuple(pair_of(value) for value in expected))

    def test_the_first_and_the_last_one(self):
        for plan in small_plans() + five_plans():
            for amount in AMOUNTS[::4]:
                outcomes = outcomes_of(plan, amount)
                self.assertEqual((outcomes[0], outcomes[-1]), (least_at(plan, amount)[0], greatest_at(plan, amount)[0]))

    def test_ascending_by_value(self):
        # By numerators the order would be another one, and by pairs, too.
        plan = plan_of({"a": ((1, 3), (0, 1), None, None), "b": ((1, 1), (1, 2), None, None), "c": ((1, 1), (-2, 1), None, None)})
        self.assertEqual(outcomes_of(plan, (1, 1)), ((-3, 2), (-7, 6), (-1, 6), (1, 6)))
        self.assertEqual(outcomes_of(plan_of({"a": OFF, "b": ADD}), (1, 1)), ((27, 5), (59, 10)))
        self.assertEqual(outcomes_of(plan_of({"a": OFF, "b": CUT}), (100, 1)), ((85, 1), (171, 2)))

    def test_one_outcome(self):
        for plan in (((), ()), plan_of({"a": CAP, "b": FOUR}, off="ab")):
            self.assertEqual(outcomes_of(plan, (7, 2)), ((7, 2),))
        self.assertEqual(outcomes_of(plan_of({"a": CUT, "b": OFF}, (("b", "a"),)), (10, 1)), ((4, 1),))
        self.assertEqual(outcomes_of(SALE, (5, 1)), ((0, 1),))

    def test_ways_through_rules_that_are_off(self):
        plan = plan_of({"a": CUT, "b": FOUR, "c": OFF}, (("c", "b"), ("b", "a")), "b")
        self.assertEqual(outcomes_of(plan, (10, 1)), ((4, 1),))

    def test_large_numbers(self):
        plan = plan_of({"huge": HUGE, "tiny": TINY, "four": ADD})
        for amount in ((10 ** 12, 1), (-(10 ** 12), 999983), (1, 10 ** 6)):
            expected = sorted({exact(value) for value in outcomes_by_trying(plan, amount).values()})
            self.assertEqual(outcomes_of(plan, amount), tuple(pair_of(value) for value in expected))

    def test_by_name(self):
        self.assertEqual(outcomes_of(plan=SALE, amount=(100, 1)), ((85, 1), (171, 2)))
        self.assertEqual(outcomes_of(amount=(100, 1), plan=SALE), ((85, 1), (171, 2)))

    def test_example(self):
        self.assertEqual(outcomes_of(PLAN, (5, 1)), ((15, 1), (20, 1), (30, 1)))


class Questions(unittest.TestCase):
    def test_against_the_definition(self):
        for plan in plan_samples() + [random_plan(seed, 5, off=2) for seed in range(8)]:
            follows = follows_by_squaring(plan)
            active = active_names(plan)
            expected = [(one, other) for one in active for other in active
                        if one < other and (one, other) not in follows and (other, one) not in follows]
            self.assertEqual(questions_of(plan), tuple(expected))

    def test_what_the_orders_leave_open(self):
        for plan in small_plans() + five_plans():
            orders = orders_by_trying(plan)
            active = active_names(plan)
            expected = [(one, other) for one in active for other in active if one < other
                        and len({order.index(one) < order.index(other) for order in orders}) == 2]
            self.assertEqual(questions_of(plan), tuple(expected))

    def test_ways_through_rules_that_are_off(self):
        self.assertEqual(questions_of(named_plan("abc", (("c", "b"), ("b", "a")), "b")), ())
        self.assertEqual(questions_of(named_plan("abcd", (("c", "b"), ("b", "a")), "b")), (("a", "d"), ("c", "d")))
        self.assertEqual(questions_of(named_plan("abc", (("b", "a"),), "b")), (("a", "c"),))

    def test_none(self):
        for plan in (((), ()), named_plan("a"), named_plan("ab", off="a"), named_plan("ab", (("b", "a"),))):
            self.assertEqual(questions_of(plan), ())

    def test_twelve_rules(self):
        names = "abcdefghijkl"
        self.assertEqual(questions_of(named_plan(names, zip(names, names[1:]))), ())
        self.assertEqual(len(questions_of(named_plan(names))), 66)

    def test_by_name(self):
        self.assertEqual(questions_of(plan=SALE), (("cut", "off"),))

    def test_example(self):
        self.assertEqual(questions_of(PLAN), (('cap', 'dbl'), ('cap', 'ten'), ('dbl', 'ten')))
