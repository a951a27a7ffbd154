import unittest

from stackorder.follows import active_names
from stackorder.starts import last_of, next_after, starts_of
from tests.helpers import PLAN, follows_by_squaring, named_plan, plan_samples, starts_by_trying


class Starts(unittest.TestCase):
    def test_starts(self):
        for plan in plan_samples():
            self.assertEqual(starts_of(plan), starts_by_trying(plan))

    def test_next_rules(self):
        for plan in plan_samples():
            active = active_names(plan)
            follows = follows_by_squaring(plan)
            for start in starts_of(plan):
                expected = tuple(
                    name for name in active if name not in start
                    and all(first in start for first, second in follows if second == name and first in active)
                )
                self.assertEqual(next_after(plan, start), expected)

    def test_last_rules(self):
        for plan in plan_samples():
            follows = follows_by_squaring(plan)
            for start in starts_of(plan):
                expected = tuple(name for name in start if not any((name, other) in follows for other in start))
                self.assertEqual(last_of(plan, start), expected)

    def test_steps_between_starts(self):
        for plan in plan_samples():
            starts = starts_of(plan)
            full = active_names(plan)
            self.assertEqual(next_after(plan, full), ())
            self.assertEqual(last_of(plan, ()), ())
            for start in starts:
                self.assertEqual(next_after(plan, start) == (), start == full)
                self.assertEqual(last_of(plan, start) == (), start == ())
                for name in next_after(plan, start):
                    self.assertIn(tuple(sorted(start + (name,))), starts)
                for name in last_of(plan, start):
                    self.assertIn(tuple(other for other in start if other != name), starts)

    def test_without_active_rules(self):
        for plan in (((), ()), named_plan("ab", off="ab"), named_plan("ab", (("b", "a"),), off="ab")):
            self.assertEqual([starts_of(plan), next_after(plan, ()), last_of(plan, ())], [((),), (), ()])

    def test_through_rules_that_are_off(self):
        plan = named_plan("abc", (("c", "b"), ("b", "a")), off="b")
        self.assertEqual(starts_of(plan), ((), ("a", "c"), ("c",)))
        self.assertEqual([next_after(plan, ()), next_after(plan, ("c",))], [("c",), ("a",)])
        self.assertEqual(last_of(plan, ("a", "c")), ("a",))

    def test_groups(self):
        # Two groups without ways between them: a start is a start of each of them.
        names = "abcdefgh"
        plan = named_plan(names, [pair for pair in zip(names, names[1:]) if pair != ("d", "e")])
        self.assertEqual(len(starts_of(plan)), 25)
        self.assertEqual(len(starts_of(named_plan(names))), 256)

    def test_twelve_active_rules(self):
        names = "abcdefghijkl"
        plan = named_plan(names, zip(names, names[1:]))
        self.assertEqual(starts_of(plan), tuple(tuple(names[:k]) for k in range(13)))
        self.assertEqual([next_after(plan, tuple(names[:5])), last_of(plan, tuple(names[:5]))], [("f",), ("e",)])

    def test_by_name(self):
        self.assertEqual(starts_of(plan=PLAN), starts_of(PLAN))
        self.assertEqual(next_after(plan=PLAN, start=("cap",)), ("add",))
        self.assertEqual(last_of(start=("cap",), plan=PLAN), ("cap",))

    def test_examples(self):
        self.assertEqual(starts_of(PLAN), ((), ("add",), ("add", "cap"), ("cap",)))
        self.assertEqual([next_after(PLAN, ("add",)), last_of(PLAN, ("add", "cap"))], [("cap",), ("add", "cap")])
