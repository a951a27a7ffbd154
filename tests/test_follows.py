import unittest

from stackorder.follows import active_names, follows_of
from tests.helpers import ADD, PLAN, follows_by_squaring, named_plan, plan_samples


class Follows(unittest.TestCase):
    def test_active_names(self):
        for plan in plan_samples():
            self.assertEqual(active_names(plan), tuple(name for name, _, is_on in plan[0] if is_on))
        self.assertEqual(active_names(((), ())), ())
        self.assertEqual(active_names(PLAN), ("add", "cap"))
        self.assertEqual(active_names(named_plan("abc", off="b")), ("a", "c"))
        self.assertEqual(active_names(named_plan("abc", off="abc")), ())
        self.assertEqual(active_names(((("a", ADD, False),), ())), ())

    def test_follows(self):
        for plan in plan_samples():
            self.assertEqual(follows_of(plan), follows_by_squaring(plan))

    def test_ways_through_rules_that_are_off(self):
        plan = named_plan("abc", (("a", "b"), ("b", "c")), off="b")
        self.assertEqual(follows_of(plan), (("a", "b"), ("a", "c"), ("b", "c")))
        plan = named_plan("abcd", (("d", "c"), ("c", "b"), ("b", "a")), off="bc")
        self.assertEqual(follows_of(plan), (("b", "a"), ("c", "a"), ("c", "b"), ("d", "a"), ("d", "b"), ("d", "c")))

    def test_none(self):
        self.assertEqual([follows_of(((), ())), follows_of(PLAN), follows_of(named_plan("ab", off="ab"))], [(), (), ()])

    def test_several_ways_give_one_pair(self):
        plan = named_plan("abcd", (("a", "b"), ("a", "c"), ("b", "d"), ("c", "d"), ("a", "d")))
        self.assertEqual(follows_of(plan), (("a", "b"), ("a", "c"), ("a", "d"), ("b", "d"), ("c", "d")))

    def test_kinds_of_the_results(self):
        for plan in (PLAN, ((), ()), named_plan("ab", (("b", "a"),))):
            self.assertIs(type(active_names(plan)), tuple)
            self.assertIs(type(follows_of(plan)), tuple)
            self.assertTrue(all(type(pair) is tuple for pair in follows_of(plan)))

    def test_by_name(self):
        self.assertEqual([active_names(plan=PLAN), follows_of(plan=PLAN)], [("add", "cap"), ()])
