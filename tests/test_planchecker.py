import unittest

from stackorder.errors import InvalidPaper
from stackorder.planchecker import lets_plan
from tests.helpers import ADD, CAP, ODD_VALUES, PLAN, named_plan, nested, plan_samples

A, B, C, D = [(name, ADD, name != "c") for name in "abcd"]


class PlanChecker(unittest.TestCase):
    def assertInvalid(self, word, at, thing):
        with self.assertRaises(InvalidPaper) as raised:
            lets_plan(thing)
        self.assertEqual((raised.exception.word, raised.exception.at), (word, at), thing)

    def test_number_of_active_rules(self):
        for plan in plan_samples():
            self.assertEqual(lets_plan(plan), sum(is_on for _, _, is_on in plan[0]))
        for plan, number in ((((), ()), 0), (PLAN, 2), (((A, B, C, D), ()), 3), (((C,), ()), 0)):
            self.assertEqual(lets_plan(plan), number)
            self.assertIs(type(lets_plan(plan)), int)
        self.assertEqual(lets_plan(named_plan(["r" + letter for letter in "abcdefghijkl"])), 12)
        self.assertEqual(lets_plan(named_plan(["r" + letter for letter in "abcdefghijklmno"])), 15)

    def test_shape(self):
        for value in (*ODD_VALUES, nested(30), ((A,),), ([A], ()), ((A,), [("a", "a")]), ((list(A),), ()),
                      ((("a", ADD, 1),), ()), ((("a", ADD[:3], True),), ()), ((A, B), (("a", "b", "c"),))):
            self.assertInvalid("shape", -1, value)

    def test_shape_comes_before_all_else(self):
        self.assertInvalid("shape", -1, ((B, A, A, ("b", ADD, None)), (("x", "x"),)))
        self.assertInvalid("shape", -1, ((B, A), (("x", "x"), ("a", 1))))

    def test_rule(self):
        self.assertInvalid("rule", 1, ((B, A), ()))
        self.assertInvalid("rule", 1, ((A, A), ()))
        self.assertInvalid("rule", 2, ((A, B, B, A), ()))
        self.assertInvalid("rule", 2, ((A, C, B), ()))
        self.assertInvalid("rule", 1, ((("ab", ADD, True), A), ()))
        self.assertInvalid("rule", 3, ((A, B, D, C), (("x", "y"), ("a", "a"))))

    def test_name(self):
        self.assertInvalid("name", (0, 0), ((), (("a", "b"),)))
        self.assertInvalid("name", (0, 0), ((A,), (("x", "a"),)))
        self.assertInvalid("name", (0, 1), ((A,), (("a", "x"),)))
        self.assertInvalid("name", (0, 0), ((A,), (("x", "x"),)))
        self.assertInvalid("name", (2, 1), ((A, B, C), (("a", "b"), ("b", "c"), ("c", "x"))))
        self.assertInvalid("name", (1, 0), ((A, B, C), (("b", "c"), ("aa", "b"))))

    def test_same(self):
        self.assertInvalid("same", 0, ((A,), (("a", "a"),)))
        self.assertInvalid("same", 1, ((A, B), (("a", "b"), ("b", "b"))))
        self.assertInvalid("same", 1, ((A, B), (("b", "a"), ("a", "a"))))

    def test_pair(self):
        self.assertInvalid("pair", 1, ((A, B), (("a", "b"), ("a", "b"))))
        self.assertInvalid("pair", 1, ((A, B), (("b", "a"), ("a", "b"))))
        self.assertInvalid("pair", 2, ((A, B, C), (("a", "b"), ("b", "c"), ("a", "c"))))
        self.assertInvalid("pair", 1, ((A, B, C), (("b", "c"), ("b", "a"))))

    def test_pairs_are_checked_one_after_the_other(self):
        self.assertInvalid("same", 0, ((A, B), (("b", "b"), ("x", "a"))))
        self.assertInvalid("pair", 1, ((A, B), (("b", "a"), ("a", "b"), ("a", "a"))))
        self.assertInvalid("pair", 1, ((A, B), (("b", "a"), ("a", "b"), ("x", "b"))))
        self.assertInvalid("name", (1, 1), ((A, B), (("b", "a"), ("a", "x"), ("a", "a"))))

    def test_circle(self):
        self.assertInvalid("circle", 0, ((A, B), (("a", "b"), ("b", "a"))))
        self.assertInvalid("circle", 1, ((A, B, D), (("b", "d"), ("d", "b"))))
        self.assertInvalid("circle", 1, ((A, B, D), (("a", "b"), ("b", "d"), ("d", "b"))))
        self.assertInvalid("circle", 0, ((A, B, D), (("a", "b"), ("b", "d"), ("d", "a"))))
        self.assertEqual(lets_plan(((A, B, D), (("a", "b"), ("a", "d"), ("b", "d")))), 3)

    def test_circle_through_rules_that_are_off(self):
        self.assertInvalid("circle", 1, ((A, B, C, D), (("a", "b"), ("b", "c"), ("c", "d"), ("d", "b"))))
        off = named_plan("xyz", (("x", "y"), ("y", "z"), ("z", "x")), off="xyz")
        self.assertInvalid("circle", 0, off)

    def test_pairs_come_before_circles(self):
        self.assertInvalid("pair", 2, ((A, B), (("a", "b"), ("b", "a"), ("a", "b"))))
        self.assertInvalid("name", (2, 1), ((A, B), (("a", "b"), ("b", "a"), ("b", "x"))))

    def test_long_chains(self):
        names = sorted(one + other + last for one in "abcdefgh" for other in "abcdefgh" for last in "abcd")
        pairs = tuple(zip(names, names[1:]))
        self.assertEqual(lets_plan(named_plan(names, pairs, off=names)), 0)
        self.assertInvalid("circle", 0, named_plan(names, pairs + ((names[-1], names[0]),), off=names))

    def test_by_name(self):
        self.assertEqual(lets_plan(thing=PLAN), 2)

    def test_example(self):
        self.assertInvalid("circle", 0, ((("add", ADD, True), ("cap", CAP, True)), (("add", "cap"), ("cap", "add"))))
