import unittest

from stackorder.asking import questions_needed
from stackorder.kinds import is_number
from stackorder.outcomes import outcomes_of, questions_of
from stackorder.settling import settling_sets
from tests.helpers import follows_by_squaring
from tests.papers import needed_by_trying
from tests.plans import ADD, ADDS, BAND, CAP, CUT, DOUBLE, FIVE_OR_TEN, FOUR, LESS, OFF, SALE, SAME, plan_of, random_plan, small_plans
from tests.test_outcomes import PLAN

AMOUNTS = ((-7, 2), (0, 1), (5, 1), (40, 3), (20, 1))
FREE_PLANS = [random_plan(seed, 4, density=0) for seed in range(12)] + [
    plan_of({"a": CUT, "b": OFF, "c": CAP, "d": DOUBLE}), plan_of({"a": CUT, "b": OFF, "c": LESS, "d": ADD}),
]
# Whether a or f comes first is not in the settling set, but asked first it saves a question.
OUTSIDE = plan_of({"a": BAND, "b": ((1, 1), (-6, 1), None, None), "d": LESS, "f": BAND})


class QuestionsNeeded(unittest.TestCase):
    def test_against_all_ways_to_ask(self):
        found = {}
        for plan in small_plans() + FREE_PLANS:
            for amount in AMOUNTS:
                needed = questions_needed(plan, amount)
                self.assertTrue(is_number(needed))
                self.assertEqual(needed, needed_by_trying(plan, amount))
                found[needed] = found.get(needed, 0) + 1
        self.assertGreaterEqual(set(found), {0, 1, 2, 3, 4})

    def test_five_questions(self):
        # Twenty-four orders with outcomes that all differ: four questions have sixteen answers only.
        plan = plan_of({"a": ((2, 1), (1, 1), None, None), "b": ((3, 1), (1, 1), None, None), "c": ((5, 1), (1, 1), None, None),
                        "d": ((11, 1), (1, 1), None, None)})
        self.assertEqual(len(outcomes_of(plan, (1, 1))), 24)
        self.assertEqual(questions_needed(plan, (1, 1)), needed_by_trying(plan, (1, 1)))
        self.assertEqual(questions_needed(plan, (1, 1)), 5)

    def test_zero_exactly_with_one_outcome(self):
        for plan in small_plans() + FREE_PLANS:
            for amount in AMOUNTS:
                self.assertEqual(questions_needed(plan, amount) == 0, len(outcomes_of(plan, amount)) == 1)
        for plan in (((), ()), ADDS, plan_of({"a": CUT}), plan_of({"a": CUT}, off="a"),
                     plan_of({"a": CUT, "b": OFF}, (("b", "a"),)),
                     plan_of({"a": CUT, "b": OFF, "x": FOUR}, (("a", "x"), ("x", "b")), "x")):
            self.assertEqual(questions_needed(plan, (100, 1)), 0)
        self.assertEqual([questions_needed(SALE, amount) for amount in ((5, 1), (51, 10))], [0, 1])

    def test_at_most_the_settling_set(self):
        smaller = 0
        for plan in small_plans() + FREE_PLANS:
            for amount in AMOUNTS:
                size = len(settling_sets(plan, amount)[0])
                self.assertLessEqual(questions_needed(plan, amount), size)
                smaller += questions_needed(plan, amount) < size
        self.assertGreater(smaller, 10)

    def test_an_additional_pair_never_makes_it_greater(self):
        for plan in FREE_PLANS[:4] + [PLAN, FIVE_OR_TEN]:
            for pair in [answer for question in questions_of(plan) for answer in (question, question[::-1])]:
                more = (plan[0], tuple(sorted((*plan[1], pair))))
                self.assertFalse(any(one == other for one, other in follows_by_squaring(more)))
                for amount in AMOUNTS:
                    self.assertLessEqual(questions_needed(more, amount), questions_needed(plan, amount))

    def test_a_question_outside_of_the_settling_set_can_be_worth_asking(self):
        self.assertEqual(settling_sets(OUTSIDE, (20, 1)), ((("a", "b"), ("a", "d"), ("b", "f"), ("d", "f")),))
        self.assertEqual(needed_by_trying(OUTSIDE, (20, 1), settling_sets(OUTSIDE, (20, 1))[0]), 4)
        self.assertEqual(needed_by_trying(OUTSIDE, (20, 1)), 3)
        self.assertEqual(questions_needed(OUTSIDE, (20, 1)), 3)

    def test_rules_that_change_nothing(self):
        self.assertEqual(questions_needed(plan_of({"a": CUT, "b": SAME, "c": OFF, "d": SAME}), (20, 1)), 1)
        self.assertEqual(questions_needed(FIVE_OR_TEN, (7, 1)), 1)

    def test_by_name(self):
        self.assertEqual(questions_needed(plan=PLAN, amount=(5, 1)), 2)
        self.assertEqual(questions_needed(amount=(100, 1), plan=SALE), 1)

    def test_example(self):
        self.assertEqual(questions_needed(PLAN, (5, 1)), 2)
        self.assertEqual(len(settling_sets(PLAN, (5, 1))[0]), 3)
