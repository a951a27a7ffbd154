import unittest

from stackorder.kinds import is_fraction
from stackorder.sureness import is_sure_at, sure_amounts
from tests.helpers import exact, pair_of
from tests.plans import (
    ADD, ADDS, CAP, CUT, FIVE_OR_TEN, FOUR, FROM_ON, HALF, HIDDEN, OFF, PART_AND_POINT, PEAK, POINTS, SALE, SAME, around, best_values,
    crossings, far_plan, five_plans, form_value, forms_of, long_plan, plan_of, small_plans,
)

ALL = ((None, None),)


def is_sure(forms, amount):
    """Whether all chains make the same of the amount."""
    return len({form_value(form, amount) for form in forms}) == 1


def is_within(intervals, amount):
    return any((low is None or exact(low) <= amount) and (high is None or amount <= exact(high)) for low, high in intervals)


class SureAmounts(unittest.TestCase):
    def assertIntervals(self, intervals):
        self.assertIsInstance(intervals, tuple)
        for k, (low, high) in enumerate(intervals):
            self.assertIsInstance(intervals[k], tuple)
            self.assertTrue(is_fraction(low) or (low is None and k == 0))
            self.assertTrue(is_fraction(high) or (high is None and k == len(intervals) - 1))
            if low is not None and high is not None:
                self.assertLessEqual(exact(low), exact(high))
        # No two of them touch, so there are as few of them as possible.
        for (_, high), (low, _) in zip(intervals, intervals[1:]):
            self.assertLess(exact(high), exact(low))

    def test_against_all_orders(self):
        for plan in small_plans() + five_plans():
            forms = forms_of(plan)
            intervals = sure_amounts(plan)
            self.assertIntervals(intervals)
            crossed = crossings(forms)
            for end in [exact(end) for interval in intervals for end in interval if end is not None]:
                self.assertIn(end, crossed)
            # Between two neighbouring crossings either all amounts are sure or none.
            for amount in around(crossed):
                self.assertIs(is_sure(forms, amount), is_within(intervals, amount))

    def test_single_points_and_open_ends(self):
        self.assertEqual(sure_amounts(POINTS), (((50, 11), (50, 11)), ((300, 11), (300, 11))))
        self.assertEqual(sure_amounts(PART_AND_POINT), ((None, (5, 2)), ((15, 1), (15, 1))))
        self.assertEqual(sure_amounts(FROM_ON), (((-5, 1), None),))
        self.assertEqual(sure_amounts(PEAK), ((None, (5, 2)), ((15, 2), None)))
        self.assertEqual(sure_amounts(SALE), ((None, (5, 1)),))

    def test_everything_or_nothing(self):
        self.assertEqual([sure_amounts(plan) for plan in (ADDS, HIDDEN, plan_of({"a": CUT, "b": CUT, "c": SAME}))], [ALL] * 3)
        self.assertEqual(sure_amounts(plan_of({"a": ADD, "b": HALF})), ())
        self.assertEqual(sure_amounts(FIVE_OR_TEN), ())

    def test_one_legal_order(self):
        for plan in (((), ()), plan_of({"a": FOUR}), plan_of({"a": CUT, "b": OFF}, (("b", "a"),)), plan_of({"a": CUT}, off="a"),
                     plan_of({"a": CUT, "b": FOUR, "c": OFF}, (("a", "b"), ("b", "c")), "b")):
            self.assertEqual(sure_amounts(plan), ALL)
            self.assertIs(is_sure_at(plan, (7, 1)), True)

    def test_parts_that_meet_are_one_interval(self):
        # The functions bend at 4, at 6 and at 8, and are equal on both sides there.
        plan = plan_of({"a": ((1, 1), (0, 1), (4, 1), (6, 1)), "b": ((1, 2), (3, 1), None, None), "c": ((1, 1), (0, 1), None, (8, 1))},
                       (("a", "b"), ("a", "c")))
        self.assertEqual(sure_amounts(plan), ALL)
        # Both orders bend at 3; the outcomes differ from 7 on.
        apart = plan_of({"a": ((1, 1), (0, 1), None, (8, 1)), "b": ((2, 1), (-6, 1), (0, 1), None)})
        self.assertEqual(sure_amounts(apart), ((None, (7, 1)),))

    def test_limits(self):
        for plan in (long_plan(), far_plan()):
            active = tuple(rule[0] for rule in plan[0])
            intervals = sure_amounts(plan)
            self.assertIntervals(intervals)
            ends = [exact(end) for interval in intervals for end in interval if end is not None]
            for amount in around(ends):
                least, greatest = best_values(plan, amount, min)[active], best_values(plan, amount, max)[active]
                self.assertIs(is_within(intervals, amount), least == greatest)
                self.assertIs(is_sure_at(plan, pair_of(amount)), least == greatest)

    def test_by_name(self):
        self.assertEqual(sure_amounts(plan=SALE), ((None, (5, 1)),))

    def test_example(self):
        self.assertEqual(sure_amounts(SALE), ((None, (5, 1)),))


class IsSureAt(unittest.TestCase):
    def test_against_all_orders(self):
        for plan in small_plans() + five_plans():
            forms = forms_of(plan)
            amounts = around(crossings(forms))
            for amount in amounts[::1 + len(amounts) // 20]:
                self.assertIs(is_sure_at(plan, pair_of(amount)), is_sure(forms, amount))

    def test_at_the_ends_inside_and_beside(self):
        for plan in (SALE, POINTS, PART_AND_POINT, PEAK, FROM_ON):
            for low, high in sure_amounts(plan):
                ends = [exact(end) for end in (low, high) if end is not None]
                for end in ends:
                    self.assertIs(is_sure_at(plan, pair_of(end)), True)
                self.assertIs(is_sure_at(plan, pair_of(sum(ends) / len(ends))), True)
                if low is not None:
                    self.assertIs(is_sure_at(plan, pair_of(exact(low) - exact((1, 10 ** 6)))), False)
                if high is not None:
                    self.assertIs(is_sure_at(plan, pair_of(exact(high) + exact((1, 10 ** 6)))), False)
        self.assertIs(is_sure_at(SALE, (-(10 ** 12), 1)), True)
        self.assertIs(is_sure_at(FROM_ON, (10 ** 12, 1)), True)

    def test_by_name(self):
        self.assertEqual([is_sure_at(plan=SALE, amount=(5, 1)), is_sure_at(amount=(11, 2), plan=SALE)], [True, False])
        self.assertIs(is_sure_at(plan_of({"a": CAP, "b": ADD}), (16, 1)), False)
