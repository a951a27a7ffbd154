import inspect
import unittest
from itertools import combinations

from stackorder.receipts import orders_fitting, surely_before
from tests.papers import fitting_by_trying, orders_of_plan, values_of_order
from tests.plans import ADDS, CUT, FOUR, OFF, SALE, SAME, five_plans, plan_of, random_plan, small_plans
from tests.test_outcomes import PLAN

AMOUNTS = ((5, 1), (40, 3), (-7, 2))
PLANS = small_plans()[::2] + five_plans()[:2] + [PLAN]


def receipts_of(plan, amount):
    """Receipts with no values, with some and with all, that fit an order, and some that fit none."""
    receipts = [(amount, (1, 7), ())]
    orders = orders_of_plan(plan)
    for order in orders[::1 + len(orders) // 4]:
        values = values_of_order(plan, amount, order)
        seen = tuple(enumerate(values))[1:]
        receipts.append((amount, values[-1], ()))
        receipts.append((amount, values[-1], seen))
        for size in (1, 2):
            receipts += [(amount, values[-1], part) for part in list(combinations(seen, size))[:3]]
        if seen:
            receipts.append((amount, values[-1], ((1, (1, 7)),)))
            receipts.append((amount, values[-1], ((len(order), (1, 7)),)))
            receipts.append((amount, (1, 7), ((len(order), values[-1]),)))
            receipts.append((amount, (1, 7), ((len(order), (1, 7)),)))
    return receipts


def surely_by_trying(plan, receipt):
    orders = fitting_by_trying(plan, receipt)
    if not orders:
        return None
    names = sorted(orders[0])
    return tuple((one, other) for one in names for other in names
                 if one != other and all(order.index(one) < order.index(other) for order in orders))


class Receipts(unittest.TestCase):
    def test_against_all_orders(self):
        found = set()
        for plan in PLANS:
            for amount in AMOUNTS:
                for receipt in receipts_of(plan, amount):
                    orders = list(orders_fitting(plan, receipt))
                    self.assertEqual(orders, fitting_by_trying(plan, receipt))
                    self.assertTrue(all(type(order) is tuple for order in orders))
                    surely = surely_before(plan, receipt)
                    self.assertEqual(surely, surely_by_trying(plan, receipt))
                    self.assertEqual(surely is None, orders == [])
                    found.add(min(len(orders), 3))
        self.assertEqual(found, {0, 1, 2, 3})

    def test_ascending(self):
        orders = list(orders_fitting(plan_of({"a": SAME, "b": SAME, "c": SAME}), ((1, 1), (1, 1), ())))
        self.assertEqual(orders, sorted(orders))
        self.assertEqual(len(orders), 6)
        self.assertEqual(surely_before(plan_of({"a": SAME, "b": SAME, "c": SAME}, (("c", "a"),)), ((1, 1), (1, 1), ())),
                         (("c", "a"),))

    def test_receipts_with_values(self):
        for order in orders_of_plan(PLAN):
            values = values_of_order(PLAN, (5, 1), order)
            whole = ((5, 1), values[3], tuple(enumerate(values))[1:])
            self.assertIn(order, list(orders_fitting(PLAN, whole)))
            for k in (1, 2, 3):
                self.assertIn(order, list(orders_fitting(PLAN, ((5, 1), values[3], ((k, values[k]),)))))
                self.assertNotIn(order, list(orders_fitting(PLAN, ((5, 1), values[3], ((k, (1, 7)),)))))

    def test_a_value_at_the_last_position_that_is_not_the_outcome(self):
        self.assertEqual(list(orders_fitting(PLAN, ((5, 1), (15, 1), ((3, (20, 1)),)))), [])
        self.assertEqual(list(orders_fitting(PLAN, ((5, 1), (20, 1), ((3, (15, 1)),)))), [])
        self.assertIsNone(surely_before(PLAN, ((5, 1), (15, 1), ((3, (20, 1)),))))
        self.assertEqual(list(orders_fitting(PLAN, ((5, 1), (15, 1), ((3, (15, 1)),)))),
                         [("dbl", "ten", "cap"), ("ten", "dbl", "cap")])

    def test_an_outcome_that_no_order_has(self):
        for outcome in ((16, 1), (1, 7), (-15, 1)):
            self.assertEqual(list(orders_fitting(PLAN, ((5, 1), outcome, ()))), [])
            self.assertIsNone(surely_before(PLAN, ((5, 1), outcome, ())))

    def test_without_active_rules(self):
        for plan in (((), ()), plan_of({"a": CUT, "b": FOUR}, (("a", "b"),), "ab")):
            self.assertEqual(list(orders_fitting(plan, ((5, 1), (5, 1), ()))), [()])
            self.assertEqual(surely_before(plan, ((5, 1), (5, 1), ())), ())
            self.assertEqual(list(orders_fitting(plan, ((5, 1), (4, 1), ()))), [])
            self.assertIsNone(surely_before(plan, ((5, 1), (4, 1), ())))

    def test_nothing_is_sure(self):
        self.assertEqual(surely_before(ADDS, ((1, 1), (4, 1), ())), ())
        self.assertEqual(surely_before(ADDS, ((1, 1), (4, 1), ((1, (3, 1)),))), (("b", "a"),))

    def test_pairs_through_rules_that_are_off(self):
        plan = plan_of({"a": CUT, "b": FOUR, "c": OFF}, (("a", "b"), ("b", "c")), "b")
        self.assertEqual(surely_before(plan, ((20, 1), (27, 2), ())), (("a", "c"),))

    def test_all_pairs_of_the_only_order(self):
        plan = random_plan(4, 5, density=0)
        for order in orders_of_plan(plan)[::17]:
            values = values_of_order(plan, (20, 1), order)
            receipt = ((20, 1), values[-1], tuple(enumerate(values))[1:])
            if list(orders_fitting(plan, receipt)) == [order]:
                self.assertEqual(surely_before(plan, receipt), tuple(sorted(combinations(order, 2))))

    def test_two_generators_at_once(self):
        receipt = ((5, 1), (15, 1), ())
        one, other = orders_fitting(PLAN, receipt), orders_fitting(PLAN, receipt)
        self.assertTrue(inspect.isgenerator(one))
        self.assertEqual(next(one), next(other))
        self.assertEqual((next(other), next(one)), (("ten", "dbl", "cap"), ("ten", "dbl", "cap")))
        self.assertEqual((list(one), list(other)), ([], []))
        third = orders_fitting(SALE, ((5, 1), (0, 1), ()))
        self.assertEqual([(next(third), order) for order in orders_fitting(PLAN, receipt)],
                         [(("cut", "off"), ("dbl", "ten", "cap")), (("off", "cut"), ("ten", "dbl", "cap"))])

    def test_by_name(self):
        self.assertEqual(list(orders_fitting(receipt=((5, 1), (0, 1), ()), plan=SALE)), [("cut", "off"), ("off", "cut")])
        self.assertEqual(surely_before(receipt=((100, 1), (85, 1), ()), plan=SALE), (("off", "cut"),))

    def test_example(self):
        self.assertEqual(list(orders_fitting(PLAN, ((5, 1), (15, 1), ()))), [("dbl", "ten", "cap"), ("ten", "dbl", "cap")])
        self.assertEqual(surely_before(PLAN, ((5, 1), (15, 1), ())), (("dbl", "cap"), ("ten", "cap")))
