import unittest

from stackorder.plankinds import has_plan_shape
from tests.helpers import ADD, CAP, ODD_VALUES, PLAN, nested, plan_samples


class PlanShapes(unittest.TestCase):
    def test_plans(self):
        for plan in [((), ()), PLAN, *plan_samples()]:
            self.assertIs(has_plan_shape(plan), True)

    def test_shapes_that_are_no_plans(self):
        a, b = ("a", ADD, True), ("b", CAP, False)
        for plan in (((a, a), ()), ((b, a), ()), ((), (("a", "b"),)), ((a,), (("a", "a"),)), ((a, b), (("a", "x"),)),
                     ((a, b), (("b", "a"), ("a", "b"))), ((a, b), (("a", "b"), ("a", "b")))):
            self.assertIs(has_plan_shape(plan), True)
        many = tuple((name, ADD, True) for name in ("ab", "ac", "ad") * 20)
        self.assertIs(has_plan_shape((many, ())), True)

    def test_other_values(self):
        for value in (*ODD_VALUES, nested(30), [], [(), ()], ((),), ((), (), ()), ((), []), ([], ()), ("", ""), (None, ())):
            self.assertIs(has_plan_shape(value), False)

    def test_rules_of_another_kind(self):
        rule = ("a", ADD, True)
        self.assertIs(has_plan_shape(((rule,), ())), True)
        for k, others in ((0, ("", "A", "abcdefghi", None, 1, ("a",))), (1, (None, (), ADD[:3], list(ADD), "1,5,-,-")),
                          (2, (0, 1, None, "on", (True,)))):
            for other in others:
                changed = rule[:k] + (other,) + rule[k + 1:]
                self.assertIs(has_plan_shape(((changed,), ())), False, other)
                self.assertIs(has_plan_shape(((rule, changed), ())), False, other)
        for changed in (list(rule), rule[:2], rule + (True,), (), None, "a", (rule,)):
            self.assertIs(has_plan_shape(((changed,), ())), False)
            self.assertIs(has_plan_shape(((rule, changed), ())), False)
        self.assertIs(has_plan_shape(([rule], ())), False)
        self.assertIs(has_plan_shape((rule, ())), False)

    def test_clauses_of_another_kind(self):
        for clause in (((1, 1), (5, 1), None), ((1, 1), (5, 1), (2, 1), (2, 1)), ((2, 2), (5, 1), None, None),
                       ((-1, 1), (5, 1), None, None), ((True, 1), (5, 1), None, None), ((1, 1), (5, 1), None, [20, 1]),
                       ((0, 1), (5, 1), (1, 1), None), ((1, 1), None, None, None)):
            self.assertIs(has_plan_shape(((("a", clause, True),), ())), False)

    def test_pairs_of_another_kind(self):
        rules = (("a", ADD, True), ("b", CAP, True))
        for pair in (["a", "b"], ("a",), ("a", "b", "c"), (), "ab", None, ("a", 1), (True, "b"), ("a", ""), ("A", "b"),
                     ("a", "abcdefghi"), (("a", "b"),), ("a", ("b",))):
            self.assertIs(has_plan_shape((rules, (pair,))), False, pair)
            self.assertIs(has_plan_shape((rules, (("a", "b"), pair))), False, pair)
        self.assertIs(has_plan_shape((rules, [("a", "b")])), False)
        self.assertIs(has_plan_shape((rules, ("a", "b"))), False)

    def test_by_name(self):
        self.assertIs(has_plan_shape(thing=PLAN), True)
        self.assertIs(has_plan_shape(thing=None), False)
