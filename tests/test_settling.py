import unittest
from itertools import combinations, product

from stackorder.errors import InvalidStep, PlanError, UnknownName
from stackorder.outcomes import outcomes_of, questions_of
from stackorder.planchecker import lets_plan
from stackorder.settling import narrowed, settled_by, settling_sets
from tests.helpers import AMOUNTS, exact, named_plan, orders_by_trying, pair_of
from tests.plans import (
    ADD, ADDS, ARRIVING, CAP, CUT, FIVE_OR_TEN, FOUR, HIDDEN, OFF, SALE, SAME, SEEN, around, crossings, five_plans, forms_of, plan_of,
    random_plan, small_plans,
)
from tests.test_outcomes import PLAN, outcomes_by_trying


def agrees(order, answers):
    return all(order.index(first) < order.index(second) for first, second in answers)


def choices_of(questions):
    """All choices of one answer for each question, joint or not."""
    return product(*[(question, question[::-1]) for question in questions])


class Errors(unittest.TestCase):
    def assertUnknown(self, plan, answers, name):
        for call in (lambda: narrowed(plan, *answers), lambda: settled_by(plan, (5, 1), *answers)):
            with self.assertRaises(UnknownName) as caught:
                call()
            self.assertEqual(caught.exception.name, name)

    def assertInvalid(self, plan, answers, step, reason):
        for call in (lambda: narrowed(plan, *answers), lambda: settled_by(plan, (5, 1), *answers)):
            with self.assertRaises(InvalidStep) as caught:
                call()
            self.assertEqual((caught.exception.step, caught.exception.reason), (step, reason))
            self.assertIsInstance(caught.exception, PlanError)


class Narrowed(Errors):
    def test_no_answers(self):
        for plan in small_plans() + five_plans():
            self.assertEqual(narrowed(plan), plan)

    def test_answers_are_pairs_too(self):
        for plan in small_plans() + five_plans()[:2]:
            questions = questions_of(plan)
            for size in (1, 2):
                for chosen in list(combinations(questions, size))[:8]:
                    for answers in choices_of(chosen):
                        orders = [order for order in orders_by_trying(plan) if agrees(order, answers)]
                        if orders:
                            more = narrowed(plan, *answers)
                            lets_plan(more)
                            self.assertEqual(more, (plan[0], tuple(sorted({*plan[1], *answers}))))
                            self.assertEqual(orders_by_trying(more), orders)
                        else:
                            self.assertInvalid(plan, answers, answers, "joint")

    def test_all_questions_of_three_rules(self):
        questions = questions_of(PLAN)
        joint = 0
        for answers in choices_of(questions):
            orders = [order for order in orders_by_trying(PLAN) if agrees(order, answers)]
            if orders:
                joint += 1
                self.assertEqual(orders_by_trying(narrowed(PLAN, *answers)), orders)
            else:
                self.assertInvalid(PLAN, answers, answers, "joint")
        self.assertEqual(joint, 6)

    def test_given_twice(self):
        once = narrowed(PLAN, ("dbl", "cap"))
        self.assertEqual(once, (PLAN[0], (("dbl", "cap"),)))
        self.assertEqual(narrowed(PLAN, ("dbl", "cap"), ("dbl", "cap")), once)
        self.assertEqual(narrowed(PLAN, ("dbl", "cap"), ("ten", "cap"), ("dbl", "cap")),
                         (PLAN[0], (("dbl", "cap"), ("ten", "cap"))))

    def test_the_pairs_stay(self):
        plan = plan_of({"a": ADD, "b": CUT, "c": OFF, "d": CAP}, (("a", "b"), ("c", "d")))
        self.assertEqual(narrowed(plan, ("d", "a"), ("c", "a")),
                         (plan[0], (("a", "b"), ("c", "a"), ("c", "d"), ("d", "a"))))
        self.assertEqual(plan[1], (("a", "b"), ("c", "d")))

    def test_unknown_names(self):
        plan = plan_of({"a": ADD, "b": CUT, "c": OFF, "d": CAP}, (("a", "b"),), "d")
        self.assertUnknown(plan, (("x", "a"),), "x")
        self.assertUnknown(plan, (("a", "x"),), "x")
        self.assertUnknown(plan, (("y", "x"),), "y")
        self.assertUnknown(plan, (("a", "d"),), "d")
        self.assertUnknown(plan, (("d", "d"),), "d")
        self.assertUnknown(plan, (("a", "c"), ("c", "z"), ("y", "a")), "z")
        self.assertUnknown(((), ()), (("a", "b"),), "a")
        # Before all answers that are none to a question, and before those that are not joint.
        self.assertUnknown(plan, (("a", "a"), ("a", "b"), ("c", "x")), "x")
        self.assertUnknown(plan, (("a", "c"), ("c", "a"), ("c", "x")), "x")

    def test_answers_to_no_question(self):
        plan = plan_of({"a": ADD, "b": CUT, "c": OFF, "d": CAP, "e": FOUR}, (("a", "b"), ("b", "e"), ("e", "d")), "e")
        for answer in (("a", "a"), ("a", "b"), ("b", "a"), ("b", "d"), ("d", "a"), ("c", "c")):
            self.assertInvalid(plan, (answer,), answer, "question")
            self.assertInvalid(plan, (("a", "c"), answer), answer, "question")
            # Before those that are not joint.
            self.assertInvalid(plan, (("a", "c"), ("c", "a"), answer), answer, "question")
        self.assertInvalid(plan, (("b", "a"), ("a", "a")), ("b", "a"), "question")
        self.assertInvalid(plan, (("a", "a"), ("b", "a")), ("a", "a"), "question")

    def test_answers_that_contradict_each_other(self):
        answers = (("cap", "dbl"), ("ten", "dbl"), ("dbl", "cap"))
        self.assertInvalid(PLAN, answers, answers, "joint")
        self.assertInvalid(PLAN, answers[::2], answers[::2], "joint")

    def test_answers_that_make_a_circle(self):
        answers = (("cap", "dbl"), ("dbl", "ten"), ("ten", "cap"))
        self.assertInvalid(PLAN, answers, answers, "joint")
        plan = plan_of({"a": ADD, "b": CUT, "c": OFF}, (("a", "b"),))
        answers = (("b", "c"), ("c", "a"))
        self.assertInvalid(plan, answers, answers, "joint")
        self.assertInvalid(plan, answers[::-1], answers[::-1], "joint")
        self.assertEqual(narrowed(plan, ("c", "a")), (plan[0], (("a", "b"), ("c", "a"))))

    def test_a_circle_through_a_rule_that_is_off(self):
        plan = plan_of({"a": ADD, "b": CUT, "c": OFF, "e": FOUR}, (("a", "e"), ("e", "b")), "e")
        answers = (("c", "a"), ("b", "c"))
        self.assertInvalid(plan, answers, answers, "joint")
        self.assertInvalid(plan, (("b", "a"),), ("b", "a"), "question")
        lets_plan(narrowed(plan, ("b", "c")))

    def test_by_name(self):
        self.assertEqual(narrowed(plan=SALE), SALE)

    def test_example(self):
        self.assertInvalid(PLAN, (("cap", "cap"),), ("cap", "cap"), "question")


class SettledBy(Errors):
    def test_against_all_orders(self):
        for plan in small_plans()[4::2] + five_plans()[:2]:
            questions = questions_of(plan)
            for amount in AMOUNTS[::3]:
                outcomes = outcomes_by_trying(plan, amount)
                for size in range(3):
                    for chosen in list(combinations(questions, size))[:6]:
                        for answers in choices_of(chosen):
                            found = {outcome for order, outcome in outcomes.items() if agrees(order, answers)}
                            if found:
                                expected = found.pop() if len(found) == 1 else None
                                self.assertEqual(settled_by(plan, amount, *answers), expected)

    def test_no_answers(self):
        self.assertEqual(settled_by(SALE, (5, 1)), (0, 1))
        self.assertIsNone(settled_by(SALE, (6, 1)))
        self.assertEqual(settled_by(((), ()), (7, 2)), (7, 2))

    def test_both_answers(self):
        self.assertEqual(settled_by(SALE, (100, 1), ("cut", "off")), (171, 2))
        self.assertEqual(settled_by(SALE, (100, 1), ("off", "cut"), ("off", "cut")), (85, 1))

    def test_an_outcome_of_zero_is_no_none(self):
        self.assertEqual(settled_by(SALE, (0, 1), ("cut", "off")), (0, 1))

    def test_by_name(self):
        self.assertEqual(settled_by(plan=SALE, amount=(5, 1)), (0, 1))
        self.assertIsNone(settled_by(amount=(6, 1), plan=SALE))

    def test_example(self):
        self.assertEqual(settled_by(PLAN, (5, 1), ("dbl", "cap"), ("ten", "cap")), (15, 1))


def settles_by_trying(outcomes, questions):
    """Whether orders that agree on all of the questions have the same outcome."""
    found = {}
    for order, outcome in outcomes.items():
        answers = tuple(order.index(one) < order.index(other) for one, other in questions)
        if found.setdefault(answers, outcome) != outcome:
            return False
    return True


def settling_by_trying(plan, amount):
    """All settling sets out of which no question can be left."""
    outcomes = outcomes_by_trying(plan, amount)
    questions = questions_of(plan)
    sets = [chosen for size in range(len(questions) + 1) for chosen in combinations(questions, size)]
    settling = [chosen for chosen in sets if settles_by_trying(outcomes, chosen)]
    return tuple(sorted(chosen for chosen in settling
                        if not any(chosen[:k] + chosen[k + 1:] in settling for k in range(len(chosen)))))


class SettlingSets(unittest.TestCase):
    def assertSettling(self, plan, amount):
        found = settling_sets(plan, amount)
        self.assertEqual([type(found), type(found[0])], [tuple, tuple])
        self.assertEqual(found, settling_by_trying(plan, amount))
        return found

    def test_against_all_sets(self):
        for plan in small_plans():
            amounts = [pair_of(amount) for amount in around(crossings(forms_of(plan)))]
            for amount in [*AMOUNTS[::4], *amounts[::1 + len(amounts) // 4]]:
                found = self.assertSettling(plan, amount)
                self.assertIs(found == ((),), len(outcomes_of(plan, amount)) == 1)

    def test_five_rules(self):
        plans = five_plans() + [plan_of({"a": ADD, "b": CUT, "c": OFF, "d": CAP, "e": FOUR}, (("e", "a"),))]
        for plan in plans:
            for amount in ((-3, 1), (11, 2), (30, 1)):
                self.assertSettling(plan, amount)

    def test_each_set_settles_and_no_question_can_be_left_out(self):
        for plan in [random_plan(seed, 4, density=0.1) for seed in range(4)] + [PLAN]:
            for amount in ((5, 1), (9, 1)):
                for chosen in settling_sets(plan, amount):
                    joint = [answers for answers in choices_of(chosen)
                             if any(agrees(order, answers) for order in orders_by_trying(plan))]
                    for answers in joint:
                        self.assertIsNotNone(settled_by(plan, amount, *answers))
                    for question in chosen:
                        others = [tuple(answer for answer in answers if tuple(sorted(answer)) != question) for answers in joint]
                        self.assertIn(None, [settled_by(plan, amount, *answers) for answers in others])

    def test_one_outcome(self):
        for plan in (((), ()), ADDS, ARRIVING, SEEN, HIDDEN, plan_of({"a": CUT}), plan_of({"a": CUT, "b": OFF}, (("a", "b"),)),
                     plan_of({"a": SAME, "b": CUT, "c": SAME}), named_plan("abcde")):
            for amount in AMOUNTS[::5]:
                self.assertEqual(settling_sets(plan, amount), ((),))
        self.assertEqual(settling_sets(SALE, (5, 1)), ((),))
        self.assertEqual(settling_sets(SALE, (51, 10)), ((("cut", "off"),),))

    def test_a_question_that_settles_nothing(self):
        self.assertEqual(settling_sets(FIVE_OR_TEN, (7, 1)), ((("cap", "floor"),),))
        plan = plan_of({"a": CUT, "b": SAME, "c": OFF, "d": FOUR}, (), "d")
        self.assertEqual(settling_sets(plan, (20, 1)), ((("a", "c"),),))

    def test_ways_through_rules_that_are_off(self):
        plan = plan_of({"a": CUT, "b": FOUR, "c": OFF}, (("a", "b"), ("b", "c")), "b")
        self.assertEqual(settling_sets(plan, (20, 1)), ((),))

    def test_outcomes_decide_at_this_amount(self):
        for amount in (1, 4, 5, 10, 15, 40):
            found = self.assertSettling(PLAN, (amount, 1))
            self.assertLessEqual(set(found[0]), set(questions_of(PLAN)))
        self.assertNotEqual(settling_sets(PLAN, (5, 1)), settling_sets(PLAN, (-100, 1)))

    def test_by_name(self):
        self.assertEqual(settling_sets(plan=SALE, amount=(100, 1)), ((("cut", "off"),),))
        self.assertEqual(settling_sets(amount=(1, 1), plan=SALE), ((),))

    def test_example(self):
        self.assertEqual(settling_sets(PLAN, (5, 1)), ((('cap', 'dbl'), ('cap', 'ten'), ('dbl', 'ten')),))
        self.assertEqual([exact(outcome) for outcome in outcomes_of(PLAN, (5, 1))], [15, 20, 30])
