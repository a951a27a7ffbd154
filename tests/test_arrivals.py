import unittest

from stackorder.arrivals import arrivals_at, views_after
from stackorder.follows import active_names
from stackorder.kinds import is_fraction
from stackorder.starts import starts_of
from tests.helpers import exact, orders_by_trying, pair_of
from tests.plans import (
    ADD, ADDS, BAND, CAP, CUT, DOUBLE, FIVE_OR_TEN, FLOOR, FOUR, HALF, LESS, OFF, SALE, SAME, around, five_plans, form_of, form_value,
    plan_of, small_plans, turns_of,
)

ALL = (None, None)


def rank(interval):
    """What intervals are ordered by: None is the least low and the greatest high."""
    low, high = interval
    return ((low is not None, low and exact(low)), (high is None, high and exact(high)))


def parts_by_trying(plan, start):
    """The orders of the start's rules and those of the other ones, out of all legal orders with the start's rules first."""
    size = len(start)
    orders = [order for order in orders_by_trying(plan) if set(order[:size]) == set(start)]
    return {order[:size] for order in orders}, {order[size:] for order in orders}


def values_of_form(form):
    """The interval of all values of the chain."""
    factor, plus, low, high = form
    ends = (plus, plus) if factor == 0 else (low, high)
    return tuple(None if end is None else pair_of(end) for end in ends)


def seen_of_form(form):
    """The interval that is seen of the amounts before the chain; None if it is constant."""
    factor, plus, low, high = form
    if factor == 0:
        return None
    return tuple(None if bound is None else pair_of((bound - plus) / factor) for bound in (low, high))


class Arrivals(unittest.TestCase):
    def test_against_all_orders(self):
        for plan in small_plans() + five_plans():
            for start in starts_of(plan):
                first, _ = parts_by_trying(plan, start)
                expected = sorted({values_of_form(form_of(plan, order)) for order in first}, key=rank)
                self.assertEqual(arrivals_at(plan, start), tuple(expected))

    def test_values_that_arrive(self):
        for plan in small_plans()[4:]:
            start = starts_of(plan)[-1]
            first, _ = parts_by_trying(plan, start)
            intervals = arrivals_at(plan, start)
            for order in first:
                form = form_of(plan, order)
                values = [form_value(form, amount) for amount in around(turns_of(form))]
                self.assertTrue(any(
                    all((low is None or exact(low) <= value) and (high is None or value <= exact(high)) for value in values)
                    and (low is None or exact(low) in values) and (high is None or exact(high) in values)
                    for low, high in intervals
                ))

    def test_at_the_begin(self):
        for plan in small_plans() + five_plans():
            self.assertEqual(arrivals_at(plan, ()), (ALL,))

    def test_constant_chains(self):
        self.assertEqual(arrivals_at(FIVE_OR_TEN, ("cap", "floor")), (((5, 1), (5, 1)), ((10, 1), (10, 1))))
        plan = plan_of({"a": FOUR, "b": ADD, "c": CUT})
        self.assertEqual(arrivals_at(plan, ("a",)), (((4, 1), (4, 1)),))
        self.assertEqual(arrivals_at(plan, ("a", "b")), (((4, 1), (4, 1)), ((9, 1), (9, 1))))
        self.assertEqual(arrivals_at(plan, ("a", "c")), (((0, 1), (0, 1)), ((4, 1), (4, 1))))

    def test_equal_intervals_stand_once(self):
        self.assertEqual(arrivals_at(ADDS, ("a", "b")), (ALL,))
        self.assertEqual(arrivals_at(plan_of({"a": CAP, "b": CAP, "c": SAME}), ("a", "b", "c")), ((None, (20, 1)),))

    def test_the_order_of_the_intervals(self):
        plan = plan_of({"a": ADD, "b": BAND, "c": DOUBLE, "d": LESS, "e": CAP})
        for start in starts_of(plan):
            found = arrivals_at(plan, start)
            self.assertEqual(list(found), sorted(found, key=rank))
        plan = plan_of({"a": ADD, "b": FLOOR, "c": CAP}, (), "")
        self.assertEqual(arrivals_at(plan, ("a", "c")), ((None, (20, 1)), (None, (25, 1))))
        self.assertEqual(arrivals_at(plan, ("a", "b")), (((0, 1), None), ((5, 1), None)))
        self.assertEqual(arrivals_at(plan, ("a", "b", "c")), (
            ((0, 1), (20, 1)), ((0, 1), (25, 1)), ((5, 1), (20, 1)), ((5, 1), (25, 1)),
        ))
        half = plan_of({"a": ((1, 3), (0, 1), None, None), "b": ((1, 1), (0, 1), (-3, 1), None), "c": ((1, 1), (-1, 2), None, None)})
        lows = [low for low, _ in arrivals_at(half, ("a", "b", "c"))]
        self.assertEqual(lows, [(-7, 2), (-3, 1), (-3, 2), (-7, 6), (-1, 1)])

    def test_rules_that_are_off(self):
        plan = plan_of({"a": CUT, "b": FOUR, "c": OFF}, (), "b")
        self.assertEqual(arrivals_at(plan, ("a", "c")), (((0, 1), None),))
        through = plan_of({"a": ADD, "b": FOUR, "c": CAP}, (("c", "b"), ("b", "a")), "b")
        self.assertEqual(arrivals_at(through, ("a", "c")), ((None, (25, 1)),))
        self.assertEqual(arrivals_at(through, ("c",)), ((None, (20, 1)),))

    def test_by_name(self):
        self.assertEqual(arrivals_at(plan=SALE, start=("cut",)), (((0, 1), None),))
        self.assertEqual(arrivals_at(start=("off",), plan=SALE), (ALL,))


class Views(unittest.TestCase):
    def test_against_all_orders(self):
        for plan in small_plans() + five_plans():
            for start in starts_of(plan):
                _, last = parts_by_trying(plan, start)
                views = {seen_of_form(form_of(plan, order)) for order in last} - {None}
                self.assertEqual(views_after(plan, start), tuple(sorted(views, key=rank)))

    def test_what_is_seen(self):
        # A chain makes two values alike exactly if they are alike after they are bounded by its interval.
        for plan in small_plans()[4:]:
            for start in starts_of(plan):
                views = views_after(plan, start)
                for order in parts_by_trying(plan, start)[1]:
                    form = form_of(plan, order)
                    amounts = around(turns_of(form))
                    groups = [[form_value(form, one) == form_value(form, other) for other in amounts] for one in amounts]
                    bounded = []
                    for low, high in views:
                        ends = (None if low is None else exact(low), None if high is None else exact(high))
                        values = [form_value((1, 0, *ends), amount) for amount in amounts]
                        bounded.append([[one == other for other in values] for one in values])
                    self.assertTrue(groups in bounded or all(all(row) for row in groups))

    def test_at_the_end(self):
        for plan in small_plans() + five_plans():
            self.assertEqual(views_after(plan, active_names(plan)), (ALL,))

    def test_nothing_seen(self):
        self.assertEqual(views_after(plan_of({"a": FOUR}), ()), ())
        plan = plan_of({"a": ADD, "z": FOUR}, (("a", "z"),))
        self.assertEqual([views_after(plan, ()), views_after(plan, ("a",)), views_after(plan, ("a", "z"))], [(), (), (ALL,)])
        self.assertEqual(views_after(FIVE_OR_TEN, ()), ())
        self.assertEqual(views_after(FIVE_OR_TEN, ("cap",)), ())

    def test_views_beside_constant_chains(self):
        # Cap, then floor is constant; the other way round nothing is constant.
        plan = plan_of({"cap": ((1, 1), (0, 1), None, (5, 1)), "up": ((1, 1), (3, 1), (7, 1), None)})
        self.assertEqual(views_after(plan, ()), (((4, 1), (5, 1)),))
        self.assertEqual(views_after(plan_of({"cap": ((1, 1), (0, 1), None, (5, 1)), "up": ((1, 1), (1, 1), (7, 1), None)}), ()), ())

    def test_equal_intervals_and_their_order(self):
        self.assertEqual(views_after(ADDS, ()), (ALL,))
        plan = plan_of({"a": ADD, "b": FLOOR, "c": CAP}, (), "")
        self.assertEqual(views_after(plan, ("b",)), ((None, (15, 1)), (None, (20, 1))))
        self.assertEqual(views_after(plan, ("c",)), (((-5, 1), None), ((0, 1), None)))
        self.assertEqual(views_after(plan, ()), (
            ((-5, 1), (15, 1)), ((-5, 1), (20, 1)), ((0, 1), (15, 1)), ((0, 1), (20, 1)),
        ))

    def test_rules_that_are_off(self):
        through = plan_of({"a": ADD, "b": FOUR, "c": CAP}, (("c", "b"), ("b", "a")), "b")
        self.assertEqual([views_after(through, ()), views_after(through, ("c",))], [((None, (20, 1)),), (ALL,)])

    def test_kinds(self):
        for intervals in (arrivals_at(SALE, ("cut",)), views_after(SALE, ())):
            self.assertIsInstance(intervals, tuple)
            for interval in intervals:
                self.assertEqual([type(interval), len(interval)], [tuple, 2])
                self.assertTrue(all(end is None or is_fraction(end) for end in interval))

    def test_by_name(self):
        self.assertEqual(views_after(plan=SALE, start=("off",)), (((5, 1), None),))
        self.assertEqual(views_after(start=("cut",), plan=SALE), (ALL,))
        self.assertEqual(views_after(plan_of({"a": HALF, "b": CAP}), ("a",)), ((None, (20, 1)),))

    def test_example(self):
        self.assertEqual(views_after(SALE, ()), (((5, 1), None), ((50, 9), None)))
