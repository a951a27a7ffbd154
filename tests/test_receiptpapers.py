from random import Random

from stackorder.receiptchecker import lets_receipt
from stackorder.receiptpapers import receipt_paper
from stackorder.starts import starts_of
from tests.helpers import ODD_VALUES, exact, nested, pair_of
from tests.papers import PaperCase, changed, fitting_by_trying, orders_of_plan, receipt_error, spoiled, values_of_order
from tests.plans import ADDS, CUT, FOUR, LESS, OFF, SALE, SAME, plan_of, small_plans
from tests.test_outcomes import PLAN
from tests.test_receipts import AMOUNTS, PLANS, receipts_of

FITS = ((5, 1), (15, 1), ())
NONE = ((5, 1), (16, 1), ())
SEEN = ((5, 1), (15, 1), ((1, (10, 1)), (2, (7, 1))))
THROUGH = plan_of({"a": CUT, "b": FOUR, "c": OFF, "d": LESS}, (("a", "b"), ("b", "c")), "b")


class Papers(PaperCase):
    def assertReceipt(self, plan, receipt, paper, word, at):
        self.assertEqual(receipt_error(plan, receipt, paper), (word, at))
        self.assertRefused(word, at, lets_receipt, plan, receipt, paper)

    def assertAccepted(self, plan, receipt, paper):
        self.assertIsNone(receipt_error(plan, receipt, paper))
        self.assertEqual(lets_receipt(plan, receipt, paper), paper[0])


class ReceiptPapers(Papers):
    def test_accepted(self):
        words = {}
        for plan in PLANS + [THROUGH]:
            for amount in AMOUNTS:
                for receipt in receipts_of(plan, amount):
                    paper = receipt_paper(plan, receipt)
                    self.assertEqual([type(paper), type(paper[1])], [tuple, tuple])
                    self.assertAccepted(plan, receipt, paper)
                    self.assertEqual(paper[0], "fits" if fitting_by_trying(plan, receipt) else "none")
                    words[paper[0]] = words.get(paper[0], 0) + 1
        self.assertGreater(min(words["fits"], words["none"]), 100)

    def test_exactly_the_orders_that_fit_are_accepted(self):
        for receipt in (FITS, NONE, SEEN, ((5, 1), (15, 1), ((1, (10, 1)),)), ((5, 1), (20, 1), ((3, (20, 1)),))):
            fitting = fitting_by_trying(PLAN, receipt)
            for order in orders_of_plan(PLAN):
                if order in fitting:
                    self.assertAccepted(PLAN, receipt, ("fits", order))
                else:
                    error = receipt_error(PLAN, receipt, ("fits", order))
                    self.assertEqual(error[0], "value")
                    self.assertReceipt(PLAN, receipt, ("fits", order), *error)

    def test_without_active_rules(self):
        for plan in (((), ()), plan_of({"a": CUT, "b": OFF}, off="ab")):
            self.assertEqual(receipt_paper(plan, ((5, 1), (5, 1), ())), ("fits", ()))
            self.assertEqual(receipt_paper(plan, ((5, 1), (4, 1), ())), ("none", (((), ()),)))
            self.assertAccepted(plan, ((5, 1), (5, 1), ()), ("fits", ()))
            self.assertAccepted(plan, ((5, 1), (4, 1), ()), ("none", (((), ()),)))
            self.assertReceipt(plan, ((5, 1), (4, 1), ()), ("fits", ()), "value", 0)
            self.assertReceipt(plan, ((5, 1), (5, 1), ()), ("none", (((), ()),)), "values", 0)
            self.assertReceipt(plan, ((5, 1), (5, 1), ()), ("none", (((), ((5, 1),)),)), "end", -1)
            self.assertReceipt(plan, ((5, 1), (4, 1), ()), ("none", (((), ((5, 1),)),)), "end", -1)

    def test_a_value_at_the_last_position_that_is_not_the_outcome(self):
        receipt = ((5, 1), (15, 1), ((3, (20, 1)),))
        self.assertEqual(receipt_paper(PLAN, receipt)[0], "none")
        for order in orders_of_plan(PLAN):
            self.assertReceipt(PLAN, receipt, ("fits", order), "value", 3)

    def test_examples(self):
        self.assertEqual(receipt_paper(PLAN, ((5, 1), (15, 1), ((1, (10, 1)),))), ("fits", ("dbl", "ten", "cap")))
        self.assertReceipt(PLAN, ((5, 1), (16, 1), ()), ("fits", ("ten", "dbl", "cap")), "value", 3)

    def test_by_name(self):
        paper = receipt_paper(receipt=FITS, plan=PLAN)
        self.assertEqual(lets_receipt(thing=paper, receipt=FITS, plan=PLAN), "fits")
        self.assertEqual(lets_receipt(plan=PLAN, receipt=NONE, thing=receipt_paper(plan=PLAN, receipt=NONE)), "none")


class Shape(Papers):
    def test_other_values(self):
        order = ("dbl", "ten", "cap")
        table = receipt_paper(PLAN, NONE)[1]
        for receipt in (FITS, NONE):
            for thing in (*ODD_VALUES, nested(30), ("fits",), ("none",), ("fits", order, ()), ("none", table, ()),
                          ["fits", order],
                          ["none", table], ("fits", list(order)), ("none", list(table)), ("fits", table), ("none", order),
                          ("Fits", order),
                          (None, order), (True, table), (("fits",), order), ("fits", None), ("none", None), ("fits", "cap"),
                          order,
                          ("fits", ("dbl", "ten", None)), ("fits", ("dbl", "ten", "Cap")), ("fits", (("dbl",),)),
                          ("none", ("dbl",))):
                self.assertReceipt(PLAN, receipt, thing, "shape", -1)

    def test_rows(self):
        table = receipt_paper(PLAN, NONE)[1]
        start, values = table[1]
        for row in (None, (), (start,), (start, values, ()), [start, values], (values, start), (list(start), values),
                    ("cap", values),
                    (("Cap",), values), ((1,), values), (start, list(values)), (start, None), (start, (5, 1)), (start, ((2, 4),)),
                    (start, ((1, 0),)), (start, ((True, 1),)), (start, values + (None,)), (start, ([5, 1],)),
                    (start, ((5, 1, 1),))):
            self.assertReceipt(PLAN, NONE, ("none", changed(table, 1, row)), "shape", -1)


class FitsErrors(Papers):
    def test_orders(self):
        for order in ((), ("cap",), ("cap", "dbl"), ("cap", "dbl", "dbl"), ("cap", "dbl", "ten", "ten"), ("cap", "dbl", "zzz")):
            for receipt in (FITS, NONE):
                self.assertReceipt(PLAN, receipt, ("fits", order), "order", -1)
        plan = (PLAN[0], (("dbl", "cap"),))
        self.assertReceipt(plan, FITS, ("fits", ("cap", "dbl", "ten")), "order", -1)
        self.assertReceipt(THROUGH, ((20, 1), (27, 2), ()), ("fits", ("c", "a", "d")), "order", -1)
        self.assertReceipt(THROUGH, ((20, 1), (27, 2), ()), ("fits", ("a", "b", "c", "d")), "order", -1)

    def test_the_first_position_with_a_value_that_is_not_allowed(self):
        order = ("ten", "dbl", "cap")
        values = values_of_order(PLAN, (5, 1), order)
        self.assertEqual(values, [(5, 1), (15, 1), (30, 1), (15, 1)])
        right = dict(enumerate(values))
        for wrong in range(8):
            positions = [k + 1 for k in range(3) if wrong >> k & 1]
            for others in ((), (1, 2, 3)):
                seen = tuple((k, (1, 7) if k in positions else right[k]) for k in (1, 2, 3) if k in positions or k in others)
                for outcome in ((15, 1), (1, 7)):
                    receipt = ((5, 1), outcome, seen)
                    first = (positions + ([3] if outcome == (1, 7) else []) + [None])[0]
                    if first is None:
                        self.assertAccepted(PLAN, receipt, ("fits", order))
                    else:
                        self.assertReceipt(PLAN, receipt, ("fits", order), "value", first)

    def test_position_zero_and_the_last_one(self):
        self.assertReceipt(((), ()), ((5, 1), (6, 1), ()), ("fits", ()), "value", 0)
        plan = plan_of({"a": CUT})
        self.assertReceipt(plan, ((5, 1), (5, 1), ()), ("fits", ("a",)), "value", 1)
        self.assertReceipt(plan, ((5, 1), (0, 1), ((1, (5, 1)),)), ("fits", ("a",)), "value", 1)
        self.assertAccepted(plan, ((5, 1), (0, 1), ((1, (0, 1)),)), ("fits", ("a",)))


class NoneErrors(Papers):
    def test_starts(self):
        for plan, receipt in ((PLAN, NONE), (THROUGH, ((20, 1), (1, 7), ()))):
            table = receipt_paper(plan, receipt)[1]
            tables = [(), table[::-1], table + table[-1:], table[:1] + table, table + ((("zzz",), ()),)]
            for j, (start, values) in enumerate(table):
                tables += [table[:j] + table[j + 1:], changed(table, j, (start + ("zzz",), values))]
                tables += [changed(changed(table, j, table[i]), i, table[j]) for i in range(j)]
                tables += [changed(table, j, (start[::-1], values))] if len(start) > 1 else []
            for given in tables:
                self.assertReceipt(plan, receipt, ("none", given), "starts", -1)
        self.assertReceipt(SALE, NONE, receipt_paper(PLAN, NONE), "starts", -1)

    def test_a_value_that_is_missing(self):
        missing = 0
        for plan, receipt in ((PLAN, NONE), (PLAN, SEEN), (THROUGH, ((20, 1), (1, 7), ())),
                              (THROUGH, ((20, 1), (1, 7), ((1, (15, 1)),)))):
            table = receipt_paper(plan, receipt)[1]
            for j, (start, values) in enumerate(table):
                for k in range(len(values)):
                    missing += 1
                    given = changed(table, j, (start, values[:k] + values[k + 1:]))
                    self.assertReceipt(plan, receipt, ("none", given), "values", j)
                    wrong = changed(table, j, (start, changed(values, k, (1, 7))))
                    self.assertEqual(receipt_error(plan, receipt, ("none", wrong))[0], "values")
                    self.assertReceipt(plan, receipt, ("none", wrong), *receipt_error(plan, receipt, ("none", wrong)))
        self.assertGreater(missing, 15)

    def test_a_receipt_that_some_order_fits(self):
        # The values of all other starts may be right; then the outcome is missing at the end.
        for receipt in (FITS, ((5, 1), (20, 1), ())):
            rows = []
            for start in starts_of(PLAN):
                found = {values_of_order(PLAN, (5, 1), order)[len(start)] for order in orders_of_plan(PLAN)
                         if tuple(sorted(order[:len(start)])) == start}
                rows.append((start, tuple(sorted(found))))
            k = [start for start, _ in rows].index(("cap", "dbl", "ten"))
            rows[k] = (rows[k][0], ())
            self.assertReceipt(PLAN, receipt, ("none", tuple(rows)), "values", k)
            rows[k] = (rows[k][0], (receipt[1],))
            self.assertReceipt(PLAN, receipt, ("none", tuple(rows)), "end", -1)

    def test_more_values_than_needed_in_another_order(self):
        for plan, receipt in ((PLAN, NONE), (THROUGH, ((20, 1), (1, 7), ())), (PLAN, SEEN), (ADDS, ((1, 1), (5, 1), ()))):
            table = receipt_paper(plan, receipt)[1]
            last = max(range(len(table)), key=lambda k: len(table[k][0]))
            for k, (start, values) in enumerate(table):
                if k != last and values:
                    self.assertAccepted(plan, receipt, ("none", changed(table, k, (start, values[::-1]))))
                    self.assertAccepted(plan, receipt, ("none", changed(table, k, (start, values + values))))
            # A value that no order makes leads to values behind it, unless the receipt does not allow those.
            before = [k for k, (start, _) in enumerate(table) if len(start) == len(table[last][0]) - 1]
            for k in before:
                start, values = table[k]
                self.assertAccepted(plan, receipt, ("none", changed(table, k, (start, ((-999, 7),) + values[::-1]))))

    def test_values_that_are_not_allowed_may_stand(self):
        receipt = ((5, 1), (15, 1), ((1, (1, 7)),))
        paper = receipt_paper(PLAN, receipt)
        self.assertEqual([values for _, values in paper[1]], [((5, 1),), (), (), (), (), (), (), ()])
        wrong = tuple((start, ((2, 9),) if len(start) == 2 else values) for start, values in paper[1])
        self.assertAccepted(PLAN, receipt, ("none", wrong))

    def test_the_end(self):
        for plan, receipt in ((PLAN, NONE), (THROUGH, ((20, 1), (1, 7), ())), (ADDS, ((1, 1), (5, 1), ()))):
            table = receipt_paper(plan, receipt)[1]
            last = max(range(len(table)), key=lambda k: len(table[k][0]))
            for values in (((1, 1),), (receipt[1],), ((1, 1), (2, 1))):
                self.assertReceipt(plan, receipt, ("none", changed(table, last, (table[last][0], values))), "end", -1)
                # A missing value comes first, also one that is missing behind the end.
                begin = changed(table, 0, ((), ()))
                self.assertReceipt(plan, receipt, ("none", changed(begin, last, (table[last][0], values))), "values", 0)
                behind = changed(table, len(table) - 1, (table[-1][0], ()))
                if last != len(table) - 1:
                    given = changed(behind, last, (table[last][0], values))
                    self.assertReceipt(plan, receipt, ("none", given), *receipt_error(plan, receipt, ("none", given)))
                    self.assertEqual(receipt_error(plan, receipt, ("none", given))[0], "values")

    def test_the_first_of_several_errors(self):
        table = receipt_paper(PLAN, NONE)[1]
        for j in range(len(table)):
            for i in range(j):
                if table[i][1] and table[j][1]:
                    given = changed(changed(table, i, (table[i][0], ())), j, (table[j][0], ()))
                    error = receipt_error(PLAN, NONE, ("none", given))
                    self.assertEqual((error[0], error[1] <= j), ("values", True))
                    self.assertReceipt(PLAN, NONE, ("none", given), *error)
                    self.assertReceipt(PLAN, NONE, ("none", given[::-1]), "starts", -1)
                    self.assertReceipt(PLAN, NONE, ("none", given[::-1] + (None,)), "shape", -1)

    def test_random_changes(self):
        random = Random(52)
        words = {}
        for plan in small_plans()[::2] + [PLAN, THROUGH, plan_of({"a": SAME, "b": CUT})]:
            for amount in AMOUNTS[:2]:
                for receipt in receipts_of(plan, amount)[::4]:
                    paper = receipt_paper(plan, receipt)
                    for _ in range(20):
                        given = spoiled(random, paper, ODD_VALUES + (paper, ((2, 9),)))
                        error = receipt_error(plan, receipt, given)
                        word = self.assertLike(error, given[0] if error is None else None, lets_receipt, plan, receipt, given)
                        words[word] = words.get(word, 0) + 1
        self.assertEqual(set(words), {None, "shape", "order", "value", "starts", "values", "end"})

    def test_values_are_compared_exactly(self):
        receipt = ((1, 3), (1, 2), ((1, (1, 3)),))
        plan = plan_of({"a": SAME, "b": ((1, 1), (1, 6), None, None)})
        self.assertEqual(receipt_paper(plan, receipt), ("fits", ("a", "b")))
        near = pair_of(exact((1, 2)) + exact((1, 10 ** 6)))
        self.assertEqual(receipt_paper(plan, (receipt[0], near, ()))[0], "none")
