import unittest
from itertools import combinations, product

from stackorder.clauses import commute
from stackorder.exchanges import exchanges_noticed, noticed
from stackorder.kinds import is_fraction
from stackorder.starts import next_after, starts_of
from stackorder.sureness import sure_amounts
from tests.helpers import chain_value, exact, orders_by_trying
from tests.plans import (
    ADD, ADDS, ARRIVING, BAND, CAP, CUT, DOUBLE, FIVE_OR_TEN, FLOOR, FOUR, HIDDEN, LESS, OFF, SALE, SEEN, five_plans, form_of_chain,
    form_value, plan_of, random_plan, small_plans, turns_of,
)
from tests.test_arrivals import parts_by_trying, seen_of_form, values_of_form


def bounds(interval):
    return ((1, 1), (0, 1), *interval)


def form_between(arriving, one, other, view):
    """The chain of one, then other, between what arrives and what is seen."""
    return form_of_chain([bounds(arriving), one, other, bounds(view)])


def is_noticed_by_trying(plan, start, one, other):
    """By the definition: some arriving value becomes, bounded by what is seen, two different ones."""
    clauses = {name: clause for name, clause, _ in plan[0]}
    both = tuple(sorted((*start, one, other)))
    arrivals = {values_of_form(form_of_chain([clauses[name] for name in order])) for order in parts_by_trying(plan, start)[0]}
    views = {seen_of_form(form_of_chain([clauses[name] for name in order])) for order in parts_by_trying(plan, both)[1]} - {None}
    for arriving, view in product(arrivals, views):
        forms = [form_between(arriving, clauses[a], clauses[b], view) for a, b in ((one, other), (other, one))]
        turns = sorted({turn for form in forms for turn in turns_of(form)} | {0})
        for amount in [turns[0] - 1, *turns, turns[-1] + 1]:
            if form_value(forms[0], amount) != form_value(forms[1], amount):
                return True
    return False


def exchanges_by_trying(plan):
    return [(start, one, other) for start in starts_of(plan) for one, other in combinations(next_after(plan, start), 2)]


class Noticed(unittest.TestCase):
    def assertShown(self, plan, start, one, other, found):
        """found is an amount and two legal orders that differ in the exchange alone, with different outcomes."""
        self.assertEqual([type(found), len(found)], [tuple, 3])
        amount, first, second = found
        self.assertIs(is_fraction(amount), True)
        legal = orders_by_trying(plan)
        self.assertIn(first, legal)
        self.assertIn(second, legal)
        size = len(start)
        self.assertEqual([tuple(sorted(first[:size])), first[size:size + 2]], [start, (one, other)])
        self.assertEqual(second, first[:size] + (other, one) + first[size + 2:])
        clauses = {name: clause for name, clause, _ in plan[0]}
        outcomes = [chain_value([clauses[name] for name in order], amount) for order in (first, second)]
        self.assertNotEqual(outcomes[0], outcomes[1])

    def test_against_the_definition(self):
        for plan in small_plans() + five_plans():
            for start, one, other in exchanges_by_trying(plan):
                found = noticed(plan, start, one, other)
                self.assertIs(found is not None, is_noticed_by_trying(plan, start, one, other))
                reverse = noticed(plan, start, other, one)
                self.assertIs(reverse is None, found is None)
                if found is not None:
                    self.assertShown(plan, start, one, other, found)
                    self.assertShown(plan, start, one, other, reverse)

    def test_rules_that_commute(self):
        for plan in small_plans() + five_plans():
            clauses = {name: clause for name, clause, _ in plan[0]}
            for start, one, other in exchanges_by_trying(plan):
                if commute(clauses[one], clauses[other]):
                    self.assertIsNone(noticed(plan, start, one, other))
        self.assertIsNone(noticed(ADDS, (), "a", "b"))
        self.assertIsNone(noticed(plan_of({"a": CAP, "b": FLOOR}), (), "b", "a"))

    def test_rules_that_do_not_commute_where_nobody_notices(self):
        clauses = {name: clause for name, clause, _ in (*ARRIVING[0], *SEEN[0])}
        self.assertIs(commute(clauses["less"], clauses["zero"]), False)
        self.assertIsNone(noticed(ARRIVING, ("base",), "less", "zero"))
        self.assertIs(commute(clauses["add"], clauses["cap"]), False)
        self.assertIsNone(noticed(SEEN, (), "cap", "add"))
        # Without what bounds the amounts before them or behind them, both are noticed.
        self.assertIsNotNone(noticed(plan_of({"less": LESS, "zero": FLOOR}), (), "less", "zero"))
        self.assertIsNotNone(noticed((SEEN[0][:2], ()), (), "cap", "add"))

    def test_nobody_sees_anything(self):
        plan = plan_of({"a": CUT, "b": OFF, "z": FOUR}, (("a", "z"), ("b", "z")))
        self.assertIsNone(noticed(plan, (), "a", "b"))
        self.assertIsNone(noticed((plan[0], ()), (), "a", "b"))
        self.assertIsNotNone(noticed(plan_of({"a": CUT, "b": OFF}), (), "a", "b"))

    def test_cap_of_five_and_floor_of_ten(self):
        self.assertIsNone(noticed(FIVE_OR_TEN, ("cap", "floor"), "bent", "double"))
        self.assertIsNone(noticed(FIVE_OR_TEN, ("cap", "floor"), "double", "bent"))
        clauses = {name: clause for name, clause, _ in FIVE_OR_TEN[0]}
        # With the one interval from 5 to 10 the exchange would seem to be noticed.
        between = ((5, 1), (10, 1))
        one, other = clauses["bent"], clauses["double"]
        self.assertNotEqual(form_between(between, one, other, (None, None)), form_between(between, other, one, (None, None)))
        self.assertShown(FIVE_OR_TEN, (), "cap", "floor", noticed(FIVE_OR_TEN, (), "floor", "cap"))

    def test_an_arrival_that_only_one_order_brings(self):
        plan = plan_of({"a": ADD, "b": BAND, "c": DOUBLE, "d": LESS}, (("a", "c"), ("b", "c"), ("a", "d"), ("b", "d")))
        self.assertIs(noticed(plan, ("a", "b"), "c", "d") is not None, is_noticed_by_trying(plan, ("a", "b"), "c", "d"))
        self.assertShown(plan, ("a", "b"), "c", "d", noticed(plan, ("a", "b"), "d", "c"))

    def test_by_name(self):
        found = noticed(plan=SALE, start=(), one="off", other="cut")
        self.assertShown(SALE, (), "cut", "off", found)
        self.assertShown(SALE, (), "cut", "off", noticed(other="off", one="cut", start=(), plan=SALE))


class ExchangesNoticed(unittest.TestCase):
    def test_against_the_definition(self):
        for plan in small_plans() + five_plans():
            expected = tuple(sorted(row for row in exchanges_by_trying(plan) if is_noticed_by_trying(plan, *row)))
            self.assertEqual(exchanges_noticed(plan), expected)

    def test_all_amounts_are_sure_exactly_if_nothing_is_noticed(self):
        found = []
        for plan in small_plans() + five_plans() + [random_plan(seed, 3, density=0.3) for seed in range(900, 940)]:
            sure = sure_amounts(plan) == ((None, None),)
            self.assertIs(exchanges_noticed(plan) == (), sure)
            found.append(sure)
        self.assertGreater(sum(found), 10)
        self.assertLess(sum(found), len(found) - 10)

    def test_plans(self):
        self.assertEqual(exchanges_noticed(FIVE_OR_TEN), (((), "cap", "floor"),))
        for plan in (ARRIVING, SEEN, HIDDEN, ADDS, ((), ()), plan_of({"a": CUT}), plan_of({"a": CUT, "b": OFF}, off="a")):
            self.assertEqual(exchanges_noticed(plan), ())
        plan = plan_of({"a": ADD, "b": DOUBLE, "c": CAP})
        self.assertEqual(exchanges_noticed(plan), (
            ((), "a", "b"), ((), "a", "c"), ((), "b", "c"), (("a",), "b", "c"), (("b",), "a", "c"), (("c",), "a", "b"),
        ))

    def test_ways_through_rules_that_are_off(self):
        plan = plan_of({"a": CUT, "b": FOUR, "c": OFF}, (("a", "b"), ("b", "c")), "b")
        self.assertEqual(exchanges_noticed(plan), ())
        self.assertEqual(exchanges_noticed((plan[0], ())), (((), "a", "c"),))

    def test_by_name(self):
        self.assertEqual(exchanges_noticed(plan=SALE), (((), "cut", "off"),))

    def test_example(self):
        self.assertEqual(exchanges_noticed(SALE), (((), 'cut', 'off'),))

    def test_sale(self):
        # With off first, 0 is the outcome up to 50/9; with cut first, up to 5; behind 50/9 they differ by 1/2.
        amount, first, second = noticed(SALE, (), "cut", "off")
        self.assertEqual([first, second], [("cut", "off"), ("off", "cut")])
        self.assertGreater(exact(amount), 5)
        clauses = {name: clause for name, clause, _ in SALE[0]}
        for amount, one, other in (((5, 1), 0, 0), ((50, 9), (1, 2), 0), ((51, 9), (3, 5), (1, 10)), ((100, 1), (171, 2), (85, 1))):
            values = [exact(chain_value([clauses[name] for name in order], amount)) for order in (first, second)]
            self.assertEqual(values, [exact(part) if part else 0 for part in (one, other)])
