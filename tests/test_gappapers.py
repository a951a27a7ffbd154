import unittest
from itertools import combinations

from stackorder.boundpapers import bound_paper
from stackorder.errors import InvalidPaper
from stackorder.gapchecker import lets_gap
from stackorder.gappapers import gap_paper
from stackorder.gaps import largest_gap
from tests.helpers import ODD_VALUES, exact, nested, orders_by_trying, pair_of
from tests.plans import (
    ADD, ADDS, CAP, CUT, FOUR, OFF, PEAK, SALE, far_plan, five_plans, long_plan, plan_of, small_plans,
)

IDENTITY = ((None, (1, 1), (0, 1)),)


def changed(paper, k, value):
    return paper[:k] + (value,) + paper[k + 1:]


def with_row(paper, part, k, row):
    """The gap paper with another row k in the table of a bound paper; part is 3 or 4."""
    table, orders = paper[part]
    return changed(paper, part, (table[:k] + (row,) + table[k + 1:], orders))


def moved(pieces, by):
    return tuple((begin, factor, pair_of(exact(plus) + by)) for begin, factor, plus in pieces)


class Papers(unittest.TestCase):
    def assertError(self, plan, paper, word, at):
        with self.assertRaises(InvalidPaper) as caught:
            lets_gap(plan, paper)
        self.assertEqual((caught.exception.word, caught.exception.at), (word, at))
        self.assertEqual(repr(caught.exception.at), repr(at))


class GapPapers(Papers):
    def test_accepted(self):
        for plan in small_plans() + five_plans():
            self.assertEqual(lets_gap(plan, gap_paper(plan)), largest_gap(plan)[0])

    def test_what_is_in_it(self):
        for plan in small_plans()[:12]:
            paper = gap_paper(plan)
            self.assertEqual([type(paper), len(paper)], [tuple, 5])
            amount, low, high, least, greatest = paper
            self.assertLessEqual({low, high}, set(orders_by_trying(plan)))
            self.assertEqual(lets_gap(plan, (amount, low, high, bound_paper(plan), bound_paper(plan, greatest=True))),
                             lets_gap(plan, paper))
            self.assertEqual([len(least), len(greatest)], [2, 2])

    def test_other_papers_that_are_true(self):
        paper = gap_paper(SALE)
        for amount in ((50, 9), (6, 1), (10 ** 12, 1)):
            self.assertEqual(lets_gap(SALE, changed(paper, 0, amount)), (1, 2))
        for amount in ((0, 1), (-5, 1), (10 ** 12, 1)):
            for low, high in ((("a", "b"), ("b", "a")), (("a", "b"), ("a", "b"))):
                self.assertEqual(lets_gap(ADDS, (amount, low, high, *gap_paper(ADDS)[3:])), (0, 1))

    def test_limits(self):
        for plan in (long_plan(), far_plan()):
            self.assertEqual(lets_gap(plan, gap_paper(plan)), largest_gap(plan)[0])

    def test_without_active_rules(self):
        for plan in (((), ()), plan_of({"a": FOUR}, off="a")):
            bound = ((((), IDENTITY),), ((),))
            self.assertEqual(lets_gap(plan, ((7, 2), (), (), bound, bound)), (0, 1))
            self.assertEqual(lets_gap(plan, gap_paper(plan)), (0, 1))

    def test_by_name(self):
        paper = gap_paper(plan=SALE)
        self.assertEqual([lets_gap(plan=SALE, thing=paper), lets_gap(thing=paper, plan=SALE)], [(1, 2)] * 2)

    def test_example(self):
        self.assertEqual(lets_gap(SALE, gap_paper(SALE)), (1, 2))


class Errors(Papers):
    def test_shape(self):
        paper = gap_paper(SALE)
        papers = [*ODD_VALUES, nested(30), list(paper), paper[:4], paper + (None,), (paper,), dict(enumerate(paper)), paper[::-1]]
        for value in (None, True, 1, "1", (2, 4), (1, 0), (1, -1), (True, 1), [1, 2], (1,), (1, 2, 3), ((1, 2),)):
            papers.append(changed(paper, 0, value))
        for value in (None, "cutoff", ["cut", "off"], ("cut", 1), ("Cut",), ("cut", ("off",)), (True,), 1, ("",)):
            papers += [changed(paper, 1, value), changed(paper, 2, value)]
        for thing in papers:
            self.assertError(SALE, thing, "shape", -1)

    def test_low_and_high(self):
        paper = gap_paper(SALE)
        for order in ((), ("cut",), ("cut", "cut"), ("cut", "off", "cut"), ("cut", "zzz"), ("off", "cut", "zzz")):
            self.assertError(SALE, changed(paper, 1, order), "low", -1)
            self.assertError(SALE, changed(paper, 2, order), "high", -1)
            self.assertError(SALE, changed(changed(paper, 2, order), 1, order), "low", -1)
        plan = plan_of({"a": CUT, "b": CAP, "c": OFF}, (("a", "b"), ("b", "c")), "b")
        paper = gap_paper(plan)
        self.assertError(plan, changed(paper, 1, ("c", "a")), "low", -1)
        self.assertError(plan, changed(paper, 2, ("c", "a")), "high", -1)

    def test_errors_of_both_bound_papers(self):
        paper = gap_paper(SALE)
        for k, part in ((0, 3), (1, 4)):
            by = -9 if k else 9
            table, orders = paper[part]
            for value in (*ODD_VALUES, (table,), [table, orders], (list(table), orders), (table, (1,)), (table, orders, orders)):
                self.assertError(SALE, changed(paper, part, value), "shape", (k, -1))
            self.assertError(SALE, changed(paper, part, (table[1:], orders)), "starts", (k, -1))
            self.assertError(SALE, with_row(paper, part, 0, ((), ((None, (1, 1), (1, 1)),))), "identity", (k, -1))
            for i, (start, pieces) in enumerate(table[1:], 1):
                self.assertError(SALE, with_row(paper, part, i, (start, moved(pieces, by))), "bound", (k, (i, 0)))
            self.assertError(SALE, changed(paper, part, (table, orders + (("cut",),))), "order", (k, len(orders)))
            self.assertError(SALE, changed(paper, part, (table, ())), "reach", (k, -1))

    def test_the_second_last_rule(self):
        # The first rule of the least table of this plan allows what the second one does not.
        plan = plan_of({"a": OFF, "b": CUT})
        paper = gap_paper(plan)
        high = paper[4][0][2][1]
        self.assertError(plan, with_row(paper, 3, 2, (("a", "b"), high)), "bound", (0, (2, 1)))

    def test_bound_papers_exchanged(self):
        amount, low, high, least, greatest = gap_paper(SALE)
        self.assertError(SALE, (amount, low, high, greatest, least), "bound", (0, (2, 0)))
        self.assertError(SALE, (amount, low, high, least, least), "bound", (1, (2, 1)))

    def test_gap(self):
        for plan in (SALE, PEAK):
            paper = gap_paper(plan)
            for amount in ((0, 1), (-3, 1), (51, 10), (499, 100)):
                self.assertError(plan, changed(paper, 0, amount), "gap", -1)
            amount, low, high, least, greatest = paper
            for one, other in ((low, low), (high, high), (high, low)):
                self.assertError(plan, (amount, one, other, least, greatest), "gap", -1)
        self.assertError(PEAK, changed(gap_paper(PEAK), 0, (7, 1)), "gap", -1)

    def test_gap_that_grows_beside_the_begins(self):
        plan = plan_of({"a": ADD, "b": ((2, 1), (0, 1), None, None)})
        for amount in ((0, 1), (10 ** 12, 1), (-(10 ** 12), 1)):
            self.assertEqual(lets_gap(plan, changed(gap_paper(plan), 0, amount)), (5, 1))

    def test_the_first_of_several_errors(self):
        paper = gap_paper(SALE)
        bad = ("cut",)

        def in_table(part, word):
            def change(given):
                table, orders = given[part]
                by = -9 if part == 4 else 9
                rows = {
                    "shape": (None, orders), "starts": (table[:-1], orders),
                    "identity": ((((), ((None, (1, 1), (1, 1)),)),) + table[1:], orders),
                    "bound": (table[:1] + ((table[1][0], moved(table[1][1], by)),) + table[2:], orders),
                    "order": (table, (bad,) + orders), "reach": (table, ()),
                }
                return changed(given, part, rows[word])
            return change

        changes = [(lambda given: given[:4], "shape", -1), (lambda given: changed(given, 1, bad), "low", -1),
                   (lambda given: changed(given, 2, bad), "high", -1)]
        for part in (3, 4):
            for word, at in (("shape", -1), ("starts", -1), ("identity", -1), ("bound", (1, 0)), ("order", 0), ("reach", -1)):
                changes.append((in_table(part, word), word, (part - 3, at)))
        changes.append((lambda given: changed(given, 0, (0, 1)), "gap", -1))
        for change, word, at in changes:
            self.assertError(SALE, change(paper), word, at)
        for (first, word, at), (second, other, place) in combinations(changes, 2):
            # Two errors in one and the same bound paper are the business of its own checker.
            if not (isinstance(at, tuple) and isinstance(place, tuple) and at[0] == place[0]):
                self.assertError(SALE, first(second(paper)), word, at)
