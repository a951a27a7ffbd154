import unittest
from itertools import permutations

from stackorder.clauses import chained
from stackorder.follows import active_names
from stackorder.orders import chain_of, is_legal, orders_of
from stackorder.starts import next_after
from tests.helpers import ADD, AMOUNTS, CAP, ODD_VALUES, PLAN, chain_value, clause_value, named_plan, nested, orders_by_trying, plan_samples

CLAUSES = {
    "a": ADD, "b": ((2, 1), (0, 1), None, None), "c": CAP, "d": ((1, 2), (-3, 1), (0, 1), None), "e": ((0, 1), (4, 1), None, None),
}
MIXED = (tuple((name, clause, name != "d") for name, clause in CLAUSES.items()), (("a", "d"), ("d", "c")))


class Orders(unittest.TestCase):
    def test_orders(self):
        for plan in plan_samples():
            self.assertEqual(list(orders_of(plan)), orders_by_trying(plan))

    def test_ways_by_next_rules(self):
        for plan in plan_samples():
            orders = [()]
            for _ in active_names(plan):
                orders = [order + (name,) for order in orders for name in next_after(plan, tuple(sorted(order)))]
            self.assertEqual(list(orders_of(plan)), sorted(orders))

    def test_without_active_rules(self):
        for plan in (((), ()), named_plan("ab", off="ab")):
            self.assertEqual(list(orders_of(plan)), [()])

    def test_five_active_rules(self):
        self.assertEqual(list(orders_of(named_plan("abcde"))), list(permutations("abcde")))
        self.assertEqual(list(orders_of(named_plan("abcde", [("e", "a"), ("e", "b"), ("e", "c"), ("e", "d")])))[0], tuple("eabcd"))

    def test_through_rules_that_are_off(self):
        self.assertEqual(list(orders_of(MIXED)), orders_by_trying(MIXED))
        for order in orders_of(MIXED):
            self.assertLess(order.index("a"), order.index("c"))

    def test_a_generator_yields_one_by_one(self):
        walk = orders_of(PLAN)
        self.assertIs(iter(walk), walk)
        self.assertEqual([next(walk), next(walk), next(walk, None)], [("add", "cap"), ("cap", "add"), None])

    def test_two_walked_at_once(self):
        plan = named_plan("abc", (("c", "a"),))
        expected = orders_by_trying(plan)
        self.assertEqual(list(zip(orders_of(plan), orders_of(plan))), [(order, order) for order in expected])
        one, other = orders_of(plan), orders_of(plan)
        self.assertEqual([next(one), next(one), next(other), next(one), next(other)],
                         [expected[0], expected[1], expected[0], expected[2], expected[1]])

    def test_by_name(self):
        self.assertEqual(list(orders_of(plan=PLAN)), [("add", "cap"), ("cap", "add")])

    def test_example(self):
        self.assertEqual(list(orders_of(PLAN)), [('add', 'cap'), ('cap', 'add')])


class IsLegal(unittest.TestCase):
    def test_all_permutations(self):
        for plan in plan_samples():
            legal = orders_by_trying(plan)
            for order in permutations(active_names(plan)):
                self.assertIs(is_legal(plan, order), order in legal)

    def test_names_removed_repeated_unknown_or_off(self):
        for plan in plan_samples()[::3]:
            off = tuple(name for name, _, is_on in plan[0] if not is_on)
            for order in orders_by_trying(plan):
                for k in range(len(order)):
                    self.assertIs(is_legal(plan, order[:k] + order[k + 1:]), False)
                    self.assertIs(is_legal(plan, order[:k] + order[k:k + 1] + order[k:]), False)
                    self.assertIs(is_legal(plan, order[:k] + ("zzz",) + order[k + 1:]), False)
                    self.assertIs(is_legal(plan, order[:k] + order[:1] + order[k + 1:]), k == 0)
                for name in (*off, "zzz", *order[:1]):
                    self.assertIs(is_legal(plan, order + (name,)), False)
                    self.assertIs(is_legal(plan, (name,) + order), False)

    def test_other_values(self):
        for value in (*ODD_VALUES, nested(30), ["add", "cap"], ("add", "CAP"), ("add", 1), (True, "cap"), ("add", None),
                      ("add", ("cap",)), (("add",), ("cap",)), "addcap", ("addcap",), (("add", "cap"),), ["add", ["cap"]]):
            self.assertIs(is_legal(PLAN, value), False)
        self.assertIs(is_legal(PLAN, ("cap", "add")), True)

    def test_without_active_rules(self):
        for plan in (((), ()), named_plan("ab", off="ab")):
            self.assertIs(is_legal(plan, ()), True)
            for value in ([], ("a",), ("",), None, "", 0, False, ((),)):
                self.assertIs(is_legal(plan, value), False)

    def test_by_name(self):
        self.assertIs(is_legal(plan=PLAN, thing=("add", "cap")), True)
        self.assertIs(is_legal(thing=("add",), plan=PLAN), False)


class ChainOf(unittest.TestCase):
    def test_legal_and_other_orders(self):
        for size in range(5):
            for order in permutations("abce", size):
                chain = chain_of(MIXED, order)
                self.assertEqual(chain, chained(*[CLAUSES[name] for name in order]))
                for amount in AMOUNTS:
                    self.assertEqual(clause_value(chain, amount), chain_value([CLAUSES[name] for name in order], amount))

    def test_no_rules(self):
        for plan in (PLAN, MIXED, ((), ())):
            self.assertEqual(chain_of(plan, ()), ((1, 1), (0, 1), None, None))

    def test_by_name(self):
        self.assertEqual(chain_of(plan=PLAN, order=("add",)), ADD)
        self.assertEqual(chain_of(order=("cap",), plan=PLAN), CAP)

    def test_example(self):
        self.assertEqual(chain_of(PLAN, ("cap", "add")), ((1, 1), (5, 1), None, (25, 1)))
