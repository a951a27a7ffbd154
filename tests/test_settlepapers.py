from itertools import combinations
from random import Random

from stackorder.amounttables import amount_table
from stackorder.outcomes import outcomes_of, questions_of
from stackorder.planchecker import lets_plan
from stackorder.settlechecker import lets_settle
from stackorder.settlepapers import settle_paper
from stackorder.settling import settling_sets
from tests.helpers import ODD_VALUES, exact, nested, pair_of
from tests.papers import (
    PaperCase, changed, choices_of, orders_of_plan, outcomes_of_plan, questions_by_trying, settle_error, spoiled, with_answers,
)
from tests.plans import (
    ADD, ADDS, CAP, CUT, DOUBLE, FIVE_OR_TEN, FOUR, LESS, OFF, SALE, SAME, five_plans, plan_of, random_plan, small_plans,
)
from tests.test_outcomes import PLAN

AMOUNTS = ((-7, 2), (0, 1), (5, 1), (40, 3), (20, 1))
FIVE = (5, 1)
# Ways of pairs lead through b, which is off.
THROUGH = plan_of({"a": CUT, "b": FOUR, "c": OFF, "d": CAP, "e": DOUBLE}, (("a", "b"), ("b", "c")), "b")


def rows_for(plan, amount, questions):
    """The rows of a paper with these questions, with the tables of the outcomes, closed or not."""
    return tuple((answers, amount_table(with_answers(plan, answers), amount)) for answers in choices_of(plan, questions))


class Papers(PaperCase):
    def assertSettle(self, plan, amount, paper, word, at):
        self.assertEqual(settle_error(plan, amount, paper), (word, at))
        self.assertRefused(word, at, lets_settle, plan, amount, paper)

    def assertAccepted(self, plan, amount, paper):
        self.assertIsNone(settle_error(plan, amount, paper))
        self.assertEqual(lets_settle(plan, amount, paper), paper[0])


class SettlePapers(Papers):
    def test_accepted(self):
        many = 0
        for plan in small_plans() + five_plans() + [THROUGH]:
            for amount in AMOUNTS[::4] if len(plan[0]) > 4 else AMOUNTS:
                paper = settle_paper(plan, amount)
                self.assertAccepted(plan, amount, paper)
                self.assertEqual((paper[0],), settling_sets(plan, amount))
                many += paper[0] != ()
        self.assertGreater(many, 40)

    def test_one_outcome(self):
        for plan in (((), ()), ADDS, plan_of({"a": CUT}), plan_of({"a": CUT, "b": OFF}, (("a", "b"),)),
                     plan_of({"a": CUT, "b": OFF}, off="ab"), plan_of({"a": CUT, "b": OFF}, off="a")):
            for amount in AMOUNTS:
                paper = settle_paper(plan, amount)
                self.assertEqual((paper[0], len(paper[1]), paper[1][0][0], paper[2]), ((), 1, (), ()))
                self.assertAccepted(plan, amount, paper)
        self.assertEqual(settle_paper(((), ()), (7, 2)), ((), (((), (((), (7, 2), (7, 2)),)),), ()))
        self.assertEqual(settle_paper(SALE, FIVE)[0], ())

    def test_ways_through_rules_that_are_off(self):
        self.assertNotIn(("a", "c"), questions_of(THROUGH))
        for amount in AMOUNTS:
            paper = settle_paper(THROUGH, amount)
            self.assertAccepted(THROUGH, amount, paper)
        # ("a", "c") is decided by the way through b, and so nobody may ask it.
        self.assertSettle(THROUGH, FIVE, ((("a", "c"),), (), ()), "questions", -1)

    def test_example(self):
        self.assertEqual(len(settle_paper(PLAN, FIVE)[1]), 6)
        self.assertRefused("rows", -1, lets_settle, PLAN, FIVE, ((), (), ()))

    def test_by_name(self):
        paper = settle_paper(amount=FIVE, plan=PLAN)
        self.assertEqual(lets_settle(thing=paper, amount=FIVE, plan=PLAN), paper[0])
        self.assertEqual(len(settle_paper(plan=PLAN, amount=(40, 1))), 3)

    def test_other_kinds_of_numbers(self):
        amount = (10 ** 12, 999983)
        for plan in (PLAN, SALE, random_plan(3, 4)):
            self.assertAccepted(plan, amount, settle_paper(plan, amount))


class Shape(Papers):
    def test_other_values(self):
        questions, rows, reasons = settle_paper(PLAN, FIVE)
        papers = [*ODD_VALUES, nested(30), [questions, rows, reasons], (questions, rows), (questions, rows, reasons, ()),
                  (list(questions), rows, reasons), (questions, list(rows), reasons), (questions, rows, list(reasons)),
                  (None, rows, reasons), (questions, None, reasons), (questions, rows, None), ("settle", rows, reasons)]
        for paper in papers:
            self.assertSettle(PLAN, FIVE, paper, "shape", -1)

    def test_parts(self):
        questions, rows, reasons = paper = settle_paper(PLAN, FIVE)
        answers, table = rows[0]
        start, low, high = table[1]
        for pair in (None, "ab", ["cap", "dbl"], ("cap",), ("cap", "dbl", "ten"), ("Cap", "dbl"), ("cap", None), ((), ())):
            self.assertSettle(PLAN, FIVE, changed(paper, 0, changed(questions, 1, pair)), "shape", -1)
            self.assertSettle(PLAN, FIVE, changed(paper, 1, changed(rows, 1, (changed(answers, 1, pair), table))), "shape", -1)
            if pair != ((), ()):
                self.assertSettle(PLAN, FIVE, changed(paper, 2, changed(reasons, 1, pair)), "shape", -1)
        for row in (None, (), (answers,), (answers, table, ()), [answers, table], (table, answers), (None, table),
                    (answers, None),
                    (list(answers), table), (answers, list(table)), (answers, table + (None,)), (answers, table + ((),))):
            self.assertSettle(PLAN, FIVE, changed(paper, 1, changed(rows, 2, row)), "shape", -1)
        for line in ((start, low), (start, low, high, high), [start, low, high], (start, None, high), (start, low, None),
                     (start, (2, 4), high), (start, low, (1, 0)), (start, (True, 1), high), (start, 1, high),
                     (list(start), low, high),
                     ("cap", low, high), (("Cap",), low, high), ((1,), low, high), (None, low, high)):
            row = (answers, changed(table, 1, line))
            self.assertSettle(PLAN, FIVE, changed(paper, 1, changed(rows, 2, row)), "shape", -1)
        one, other = reasons[0]
        for pair in ((one,), (one, other, one), [one, other], (one, None), (list(one), other), (one, "cap"), (one, (other,)),
                     (one, (1,))):
            self.assertSettle(PLAN, FIVE, changed(paper, 2, changed(reasons, 2, pair)), "shape", -1)

    def test_by_shape_orders_and_answers_may_be_any_names(self):
        questions, rows, reasons = paper = settle_paper(PLAN, FIVE)
        self.assertSettle(PLAN, FIVE, changed(paper, 2, changed(reasons, 1, ((), ("zzz", "zzz")))), "orders", 1)
        self.assertSettle(PLAN, FIVE, changed(paper, 1, changed(rows, 1, ((("z", "z"),), ()))), "rows", -1)
        self.assertSettle(PLAN, FIVE, changed(paper, 0, (("z", "z"),)), "questions", -1)
        low_above_high = changed(rows[1][1], 0, ((), (9, 1), (1, 1)))
        self.assertSettle(PLAN, FIVE, changed(paper, 1, changed(rows, 1, (rows[1][0], low_above_high))), "low", (1, 0))


class QuestionErrors(Papers):
    def test_questions(self):
        questions, rows, reasons = settle_paper(PLAN, FIVE)
        for given in (questions[::-1], questions + questions[-1:], questions[:1] * 2, (("dbl", "cap"),), (("cap", "cap"),),
                      (("cap", "zzz"),), (("aaa", "cap"),) + questions, questions[:1] + (("ten", "cap"),)):
            for others in ((rows, reasons), ((), ()), (rows, ())):
                self.assertSettle(PLAN, FIVE, (given, *others), "questions", -1)

    def test_questions_that_are_decided(self):
        plan = (PLAN[0], (("cap", "dbl"),))
        paper = settle_paper(PLAN, FIVE)
        self.assertSettle(plan, FIVE, paper, "questions", -1)
        off = (changed(PLAN[0], 0, changed(PLAN[0][0], 2, False)), ())
        self.assertSettle(off, FIVE, paper, "questions", -1)


class RowErrors(Papers):
    def test_rows(self):
        questions, rows, reasons = paper = settle_paper(PLAN, FIVE)
        given = [(), rows[::-1], rows + rows[-1:], rows[:1] + rows]
        given += [rows[:k] + rows[k + 1:] for k in range(6)]
        given += [changed(changed(rows, k, rows[j]), j, rows[k]) for j, k in combinations(range(6), 2)]
        given += [changed(rows, k, rows[j]) for j in range(6) for k in range(6) if j != k]
        for k, (answers, table) in enumerate(rows):
            for others in ((), answers[:2], answers[::-1], answers + answers[:1], changed(answers, 1, answers[1][::-1])):
                if others != answers:
                    given.append(changed(rows, k, (others, table)))
        # Cap before ten before dbl before cap is not joint.
        circle = (("cap", "ten"), ("dbl", "cap"), ("ten", "dbl"))
        given += [rows + ((circle, rows[0][1]),), tuple(sorted(rows + (((("cap", "dbl"), ("ten", "cap"), ("dbl", "ten")),
                                                                        rows[0][1]),)))]
        for each in given:
            self.assertSettle(PLAN, FIVE, changed(paper, 1, each), "rows", -1)

    def test_rows_of_fewer_questions(self):
        paper = settle_paper(PLAN, FIVE)
        for questions in combinations(paper[0], 2):
            self.assertSettle(PLAN, FIVE, changed(paper, 0, questions), "rows", -1)

    def test_starts(self):
        questions, rows, reasons = paper = settle_paper(PLAN, FIVE)
        for i, (answers, table) in enumerate(rows):
            tables = [(), table[::-1], table + table[-1:], table[:1] + table, table[1:], table[:-1], rows[i - 1][1],
                      settle_paper(PLAN, FIVE)[1][(i + 1) % 6][1], table + ((("zzz",), FIVE, FIVE),),
                      changed(table, 1, (("zzz",), FIVE, FIVE)),
                      changed(table, len(table) - 1, (("ten", "dbl", "cap"), FIVE, FIVE))]
            for other in tables:
                self.assertSettle(PLAN, FIVE, changed(paper, 1, changed(rows, i, (answers, other))), "starts", i)

    def test_low_and_high(self):
        questions, rows, reasons = paper = settle_paper(PLAN, FIVE)
        for i, (answers, table) in enumerate(rows):
            for j, (start, low, high) in enumerate(table):
                more, less = pair_of(exact(low) + 1), pair_of(exact(high) - exact((1, 3)))
                for row, word in (((start, more, high), "low"), ((start, low, less), "high"), ((start, more, less), "low")):
                    # A row before it may be passed first, for its values stand on the ones of this row.
                    given = changed(paper, 1, changed(rows, i, (answers, changed(table, j, row))))
                    error = settle_error(PLAN, FIVE, given)
                    self.assertIn((error[0], error[1][0]), (("low", i), ("high", i)))
                    self.assertSettle(PLAN, FIVE, given, *error)
                    if j in (0, len(table) - 1):
                        self.assertEqual(error[0], word)

    def test_the_values_of_no_rules_are_the_amount(self):
        questions, rows, reasons = paper = settle_paper(PLAN, FIVE)
        answers, table = rows[3]
        for value in ((4, 1), (6, 1)):
            low = changed(rows, 3, (answers, changed(table, 0, ((), value, FIVE))))
            high = changed(rows, 3, (answers, changed(table, 0, ((), FIVE, value))))
            self.assertSettle(PLAN, FIVE, changed(paper, 1, low), "low", (3, 0))
            self.assertSettle(PLAN, FIVE, changed(paper, 1, high), "high", (3, 0))
        self.assertSettle(PLAN, (6, 1), paper, "low", (0, 0))

    def test_a_table_that_is_not_closed(self):
        questions, rows, reasons = paper = settle_paper(PLAN, FIVE)
        for i, (answers, table) in enumerate(rows):
            start, low, high = max(table, key=lambda row: len(row[0]))
            j = table.index((start, low, high))
            for row in ((start, pair_of(exact(low) - 1), high), (start, low, pair_of(exact(high) + 1)),
                        (start, (-99, 1), (99, 1))):
                self.assertSettle(PLAN, FIVE, changed(paper, 1, changed(rows, i, (answers, changed(table, j, row)))), "open", i)

    def test_lows_that_are_less_and_highs_that_are_greater(self):
        # What comes before the cap may be anything that the cap still hides.
        plan = plan_of({"cap": ((1, 1), (0, 1), (0, 1), (20, 1)), "dbl": DOUBLE, "zero": ((0, 1), (3, 1), None, None)},
                       (("cap", "zero"),))
        amount = (7, 1)
        questions, rows, reasons = paper = settle_paper(plan, amount)
        self.assertAccepted(plan, amount, paper)
        accepted = 0
        for i, (answers, table) in enumerate(rows):
            for j, (start, low, high) in enumerate(table[1:], 1):
                for row in ((start, pair_of(exact(low) - 1), high), (start, low, pair_of(exact(high) + 1))):
                    given = changed(paper, 1, changed(rows, i, (answers, changed(table, j, row))))
                    error = settle_error(plan, amount, given)
                    if error is None:
                        accepted += 1
                        self.assertAccepted(plan, amount, given)
                    else:
                        self.assertSettle(plan, amount, given, *error)
        self.assertGreater(accepted, 3)


class ReasonErrors(Papers):
    def test_one_pair_for_each_question(self):
        paper = settle_paper(PLAN, FIVE)
        reasons = paper[2]
        for given in ((), reasons[:2], reasons[1:], reasons + reasons[-1:], reasons + (((), ()),)):
            self.assertSettle(PLAN, FIVE, changed(paper, 2, given), "reasons", -1)
        one = settle_paper(ADDS, FIVE)
        self.assertSettle(ADDS, FIVE, changed(one, 2, ((("a", "b"), ("b", "a")),)), "reasons", -1)

    def test_all_pairs_of_orders(self):
        for plan, amount in ((PLAN, FIVE), (FIVE_OR_TEN, (7, 1)), ((PLAN[0], (("dbl", "ten"),)), (9, 1)), (THROUGH, (20, 1))):
            paper = settle_paper(plan, amount)
            self.assertNotEqual(paper[0], ())
            orders = [*orders_of_plan(plan), orders_of_plan(plan)[0][1:], (), orders_of_plan(plan)[0][::-1], ("zzz",)]
            words = set()
            for i in range(len(paper[0])):
                for one in orders[::1 + len(orders) // 12]:
                    for other in orders[::-1 - len(orders) // 12]:
                        given = changed(paper, 2, changed(paper[2], i, (one, other)))
                        error = settle_error(plan, amount, given)
                        self.assertIn(error, (None, ("orders", i), ("same", i)))
                        words.add(self.assertLike(error, paper[0], lets_settle, plan, amount, given))
            self.assertLessEqual({"orders", "same"}, words)

    def test_orders(self):
        paper = settle_paper(PLAN, FIVE)
        legal = ("cap", "dbl", "ten")
        for order in ((), ("cap",), ("cap", "dbl"), ("cap", "dbl", "dbl"), ("cap", "dbl", "ten", "ten"), ("cap", "dbl", "zzz")):
            for pair in ((order, legal), (legal, order)):
                for i in range(3):
                    self.assertSettle(PLAN, FIVE, changed(paper, 2, changed(paper[2], i, pair)), "orders", i)
        # Legal without this pair of the plan.
        plan = (PLAN[0], (("cap", "dbl"),))
        paper = settle_paper(plan, FIVE)
        pair = (("dbl", "cap", "ten"), ("dbl", "ten", "cap"))
        self.assertSettle(plan, FIVE, changed(paper, 2, changed(paper[2], 0, pair)), "orders", 0)

    def test_orders_that_differ_in_another_question(self):
        paper = settle_paper(PLAN, FIVE)
        pair = (("cap", "dbl", "ten"), ("ten", "dbl", "cap"))
        for i in range(3):
            self.assertSettle(PLAN, FIVE, changed(paper, 2, changed(paper[2], i, pair)), "orders", i)

    def test_orders_that_agree_in_the_question_itself(self):
        # Whether same comes before the others is no question of the paper, so the orders agree on all its other questions.
        plan = plan_of({"a": CUT, "b": SAME, "c": OFF})
        amount = (20, 1)
        paper = settle_paper(plan, amount)
        self.assertEqual(paper[0], (("a", "c"),))
        for pair in ((("a", "b", "c"), ("b", "a", "c")), (("a", "b", "c"), ("a", "b", "c"))):
            self.assertSettle(plan, amount, changed(paper, 2, (pair,)), "same", 0)
        # With the question itself answered differently, an order of b does not matter, either.
        self.assertAccepted(plan, amount, changed(paper, 2, ((("a", "b", "c"), ("c", "b", "a")),)))
        self.assertAccepted(plan, amount, changed(paper, 2, ((("c", "a", "b"), ("b", "a", "c")),)))

    def test_equal_outcomes(self):
        paper = settle_paper(PLAN, FIVE)
        for i in range(3):
            one = paper[2][i][0]
            self.assertSettle(PLAN, FIVE, changed(paper, 2, changed(paper[2], i, (one, one))), "same", i)

    def test_a_question_too_many(self):
        plan = plan_of({"a": CUT, "b": SAME, "c": OFF})
        amount = (20, 1)
        questions = (("a", "b"), ("a", "c"))
        rows = rows_for(plan, amount, questions)
        reason = settle_paper(plan, amount)[2][0]
        self.assertSettle(plan, amount, (questions, rows, ((("a", "b", "c"), ("b", "a", "c")), reason)), "same", 0)
        self.assertSettle(plan, amount, (questions, rows, ((("a", "b", "c"), ("b", "c", "a")), reason)), "orders", 0)


class Several(Papers):
    def test_the_first_of_several_errors(self):
        questions, rows, reasons = settle_paper(PLAN, FIVE)
        answers, table = rows[1]
        full = table.index(max(table, key=lambda row: len(row[0])))

        def with_row(paper, j, row):
            here, given = paper[1][1]
            return changed(paper, 1, changed(paper[1], 1, (here, changed(given, j, row))))

        def with_reason(paper, i, pair):
            return changed(paper, 2, changed(paper[2], i, pair))

        changes = [
            (lambda paper: changed(paper, 2, paper[2] + (None,)), "shape", -1),
            (lambda paper: changed(paper, 0, paper[0][::-1]), "questions", -1),
            (lambda paper: changed(paper, 1, paper[1] + paper[1][-1:]), "rows", -1),
            (lambda paper: with_row(paper, 1, (("zzz",), FIVE, FIVE)), "starts", 1),
            (lambda paper: with_row(paper, 0, ((), (4, 1), FIVE)), "low", (1, 0)),
            (lambda paper: with_row(paper, full, (table[full][0], (-9, 1), (99, 1))), "open", 1),
            (lambda paper: changed(paper, 1, changed(paper[1], 4, (paper[1][4][0], ()))), "starts", 4),
            (lambda paper: changed(paper, 2, paper[2][:2]), "reasons", -1),
            (lambda paper: with_reason(paper, 0, ((), ())), "orders", 0),
            (lambda paper: with_reason(paper, 1, (("cap", "dbl", "ten"),) * 2), "same", 1),
        ]
        paper = (questions, rows, reasons)
        for change, word, at in changes:
            self.assertSettle(PLAN, FIVE, change(paper), word, at)
        for (first, word, at), (second, _, _) in combinations(changes, 2):
            self.assertSettle(PLAN, FIVE, first(second(paper)), word, at)

    def test_papers_for_another_plan_or_amount(self):
        paper = settle_paper(PLAN, FIVE)
        for plan in (SALE, ((), ()), (PLAN[0], (("dbl", "ten"),)), plan_of({"cap": CAP, "dbl": LESS, "ten": ADD})):
            for amount in (FIVE, (6, 1)):
                error = settle_error(plan, amount, paper)
                self.assertIsNotNone(error)
                self.assertSettle(plan, amount, paper, *error)

    def test_random_changes(self):
        random = Random(46)
        words = {}
        for plan in [*small_plans()[4::2], *[random_plan(seed, 3, off=1, density=0.1) for seed in range(8)], PLAN, THROUGH]:
            for amount in (FIVE, (40, 3)):
                paper = settle_paper(plan, amount)
                if len(paper[1]) <= 12:
                    for _ in range(40):
                        given = spoiled(random, paper, ODD_VALUES)
                        error = settle_error(plan, amount, given)
                        word = self.assertLike(error, given[0] if error is None else None, lets_settle, plan, amount, given)
                        words[word] = words.get(word, 0) + 1
        self.assertEqual(set(words), {None, "shape", "questions", "rows", "starts", "low", "high", "open", "reasons", "orders",
                                      "same"})

    def test_what_is_accepted_is_true(self):
        # The minimal settling set is the only one, so no paper with other questions is accepted.
        for plan in (PLAN, FIVE_OR_TEN, random_plan(31, 4, density=0.3)):
            for amount in ((7, 1), (1, 1)):
                paper = settle_paper(plan, amount)
                known = dict(zip(paper[0], paper[2]))
                for size in range(4):
                    for questions in combinations(questions_by_trying(plan), size):
                        if questions != paper[0]:
                            reasons = tuple(known.get(question, orders_of_plan(plan)[:2]) for question in questions)
                            given = (questions, rows_for(plan, amount, questions), reasons)
                            error = settle_error(plan, amount, given)
                            self.assertIsNotNone(error)
                            self.assertSettle(plan, amount, given, *error)

    def test_the_arguments_are_plans(self):
        for plan in small_plans():
            lets_plan(plan)
            self.assertEqual(questions_by_trying(plan), questions_of(plan))
            self.assertEqual(len(outcomes_of(plan, FIVE)), len(set(outcomes_of_plan(plan, FIVE).values())))
