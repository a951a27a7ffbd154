import unittest
from itertools import combinations

from stackorder.bounds import greatest_at, greatest_pieces, least_at, least_pieces
from stackorder.follows import active_names
from stackorder.piecesums import are_pieces
from stackorder.starts import starts_of
from tests.helpers import AMOUNTS, PLAN, chain_value, exact, orders_by_trying, pair_of, pieces_value
from tests.plans import (
    ADD, CAP, CUT, DOUBLE, FOUR, HUGE, OFF, SALE, TINY, around, best_values, crossings, far_plan, five_plans, form_value,
    forms_of, long_plan, plan_of, small_plans,
)

IDENTITY = ((None, (1, 1), (0, 1)),)


def outcomes_by_trying(plan, amount):
    """A dict from each legal order to the outcome of the amount."""
    clauses = {name: clause for name, clause, _ in plan[0]}
    return {order: chain_value([clauses[name] for name in order], amount) for order in orders_by_trying(plan)}


class Functions(unittest.TestCase):
    def assertBounds(self, plan, start):
        forms = forms_of(plan, start)
        least, greatest = least_pieces(plan, start=start), greatest_pieces(plan, start=start)
        self.assertIs(are_pieces(least), True)
        self.assertIs(are_pieces(greatest), True)
        for amount in around(crossings(forms)):
            values = [form_value(form, amount) for form in forms]
            self.assertEqual(exact(pieces_value(least, pair_of(amount))), min(values))
            self.assertEqual(exact(pieces_value(greatest, pair_of(amount))), max(values))

    def test_each_start(self):
        for plan in small_plans():
            for start in starts_of(plan):
                self.assertBounds(plan, start)

    def test_five_active_rules(self):
        for plan in five_plans():
            self.assertBounds(plan, None)
            for start in starts_of(plan)[::3]:
                self.assertBounds(plan, start)

    def test_the_start_of_all_active_rules_is_meant_by_none(self):
        for plan in small_plans() + five_plans():
            active = active_names(plan)
            self.assertEqual(least_pieces(plan), least_pieces(plan, start=active))
            self.assertEqual(greatest_pieces(plan), greatest_pieces(plan, start=active))
            self.assertEqual(least_pieces(plan), least_pieces(plan, start=None))
            self.assertEqual(greatest_pieces(plan), greatest_pieces(plan, start=None))

    def test_the_empty_start(self):
        for plan in small_plans() + five_plans():
            self.assertEqual(least_pieces(plan, start=()), IDENTITY)
            self.assertEqual(greatest_pieces(plan, start=()), IDENTITY)

    def test_without_active_rules(self):
        for plan in (((), ()), plan_of({"a": ADD}, off="a"), plan_of({"a": CAP, "b": FOUR}, (("b", "a"),), "ab")):
            self.assertEqual([least_pieces(plan), greatest_pieces(plan)], [IDENTITY, IDENTITY])
            for amount in AMOUNTS:
                self.assertEqual([least_at(plan, amount), greatest_at(plan, amount)], [(amount, ())] * 2)

    def test_a_rule_that_is_off_does_nothing(self):
        plan = plan_of({"a": CUT, "b": FOUR, "c": OFF}, off="b")
        other = plan_of({"a": CUT, "c": OFF})
        self.assertEqual([least_pieces(plan), greatest_pieces(plan)], [least_pieces(other), greatest_pieces(other)])
        self.assertNotEqual(least_pieces(plan), greatest_pieces(plan))

    def test_ways_through_a_rule_that_is_off(self):
        plan = plan_of({"a": CUT, "b": FOUR, "c": OFF}, (("c", "b"), ("b", "a")), "b")
        only = plan_of({"a": CUT, "c": OFF}, (("c", "a"),))
        self.assertEqual(least_pieces(plan), ((None, (0, 1), (0, 1)), ((50, 9), (9, 10), (-5, 1))))
        self.assertEqual([greatest_pieces(plan), greatest_pieces(only)], [least_pieces(plan)] * 2)

    def test_large_numbers(self):
        plan = plan_of({"huge": HUGE, "tiny": TINY, "cap": ((1, 1), (0, 1), None, (10 ** 12, 1))})
        for start in starts_of(plan):
            self.assertBounds(plan, start)
        for amount in ((10 ** 12, 1), (-(10 ** 12), 999983), (10 ** 12 - 1, 10 ** 6)):
            outcomes = {exact(value) for value in outcomes_by_trying(plan, amount).values()}
            self.assertEqual(exact(least_at(plan, amount)[0]), min(outcomes))
            self.assertEqual(exact(greatest_at(plan, amount)[0]), max(outcomes))
            self.assertGreater(len(outcomes), 1)

    def test_one_more_pair(self):
        for plan in small_plans() + five_plans()[::3]:
            rules, pairs = plan
            orders = orders_by_trying(plan)
            least, greatest = least_pieces(plan), greatest_pieces(plan)
            amounts = [pair_of(amount) for amount in around(crossings(forms_of(plan)))]
            for pair in combinations(active_names(plan), 2):
                more = (rules, tuple(sorted({*pairs, pair})))
                if 0 < len(orders_by_trying(more)) < len(orders):
                    low, high = least_pieces(more), greatest_pieces(more)
                    for amount in amounts:
                        self.assertLessEqual(exact(pieces_value(least, amount)), exact(pieces_value(low, amount)))
                        self.assertLessEqual(exact(pieces_value(high, amount)), exact(pieces_value(greatest, amount)))

    def test_by_name(self):
        self.assertEqual(least_pieces(plan=SALE, start=("cut",)), ((None, (0, 1), (0, 1)), ((5, 1), (1, 1), (-5, 1))))
        self.assertEqual(greatest_pieces(start=("off",), plan=SALE), ((None, (9, 10), (0, 1)),))

    def test_examples(self):
        self.assertEqual([least_pieces(PLAN), greatest_pieces(PLAN)], [
            ((None, (1, 1), (5, 1)), ((15, 1), (0, 1), (20, 1))), ((None, (1, 1), (5, 1)), ((20, 1), (0, 1), (25, 1))),
        ])


class Outcomes(unittest.TestCase):
    def test_least_and_greatest_outcomes(self):
        for plan in small_plans() + five_plans()[::2]:
            amounts = [pair_of(amount) for amount in around(crossings(forms_of(plan)))]
            for amount in [*AMOUNTS[::3], *amounts[::1 + len(amounts) // 12]]:
                outcomes = outcomes_by_trying(plan, amount)
                values = [exact(value) for value in outcomes.values()]
                low, first = least_at(plan, amount)
                high, second = greatest_at(plan, amount)
                self.assertEqual([outcomes[first], outcomes[second]], [low, high])
                self.assertEqual([low, high], [pair_of(min(values)), pair_of(max(values))])

    def test_kinds(self):
        for row in (least_at(SALE, (30, 1)), greatest_at(SALE, (30, 1))):
            self.assertEqual([type(part) for part in (row, *row)], [tuple, tuple, tuple])

    def test_by_name(self):
        self.assertEqual(least_at(plan=SALE, amount=(6, 1)), ((2, 5), ("off", "cut")))
        self.assertEqual(greatest_at(amount=(6, 1), plan=SALE), ((9, 10), ("cut", "off")))

    def test_examples(self):
        self.assertEqual([least_at(PLAN, (30, 1)), greatest_at(PLAN, (30, 1))],
                         [((20, 1), ("add", "cap")), ((25, 1), ("cap", "add"))])


class Groups(unittest.TestCase):
    def test_two_groups_beside_one_another(self):
        one = plan_of({"a": CUT, "b": OFF, "c": CAP}, (("a", "c"),), "")
        rules, pairs = plan_of({"a": CUT, "b": OFF, "c": CAP, "x": DOUBLE, "y": ADD, "z": FOUR}, (("a", "c"), ("y", "x")), "z")
        other = plan_of({"x": DOUBLE, "y": ADD, "z": FOUR}, (("y", "x"),), "z")
        both = (rules, pairs)
        expected = sorted(tuple(sorted(left + right)) for left in starts_of(one) for right in starts_of(other))
        self.assertEqual(list(starts_of(both)), expected)
        for start in starts_of(both):
            for plan, names in ((one, "abc"), (other, "xyz")):
                if set(start) <= set(names):
                    self.assertEqual(least_pieces(both, start=start), least_pieces(plan, start=start))
                    self.assertEqual(greatest_pieces(both, start=start), greatest_pieces(plan, start=start))


class Limits(unittest.TestCase):
    def test_twelve_active_rules_and_two_hundred_starts(self):
        for plan in (long_plan(), far_plan()):
            starts = starts_of(plan)
            self.assertEqual([len(active_names(plan)), len(starts)], [12, 200])
            for function, at, pick in ((least_pieces, least_at, min), (greatest_pieces, greatest_at, max)):
                pieces = function(plan)
                begins = [exact(piece[0]) for piece in pieces[1:]]
                table = {start: function(plan, start=start) for start in starts[::40]}
                for amount in around(begins)[::5]:
                    values = best_values(plan, amount, pick)
                    given = pair_of(amount)
                    self.assertEqual(exact(pieces_value(pieces, given)), values[active_names(plan)])
                    for start in table:
                        self.assertEqual(exact(pieces_value(table[start], given)), values[start])
                    outcome, order = at(plan, given)
                    self.assertEqual(exact(outcome), values[active_names(plan)])
                    clauses = {name: clause for name, clause, _ in plan[0]}
                    self.assertEqual(chain_value([clauses[name] for name in order], given), outcome)
