import unittest
from itertools import combinations
from random import Random

from stackorder.arrivals import arrivals_at, views_after
from stackorder.errors import InvalidPaper
from stackorder.exchanges import exchanges_noticed, noticed
from stackorder.follows import active_names
from stackorder.starts import next_after, starts_of
from stackorder.surechecker import lets_sure
from stackorder.surepapers import sure_paper
from tests.helpers import ODD_VALUES, chain_value, clause_value, exact, nested, orders_by_trying, pair_of
from tests.plans import (
    ADD, ADDS, ARRIVING, CAP, CUT, FIVE_OR_TEN, FLOOR, FOUR, HIDDEN, LESS, OFF, SALE, SAME, SEEN, five_plans, form_of_chain, plan_of,
    small_plans,
)
from tests.test_arrivals import seen_of_form
from tests.test_exchanges import bounds, form_between

ALL = ((None, None),)
SURE_PLANS = [plan for plan in small_plans() + five_plans() if exchanges_noticed(plan) == ()]
OPEN_PLANS = [plan for plan in small_plans() + five_plans() if exchanges_noticed(plan) != ()]


def everywhere(plan, intervals=ALL):
    return tuple((start, intervals) for start in starts_of(plan))


def is_covered(interval, intervals):
    def is_least(one, other):
        return one is None or (other is not None and exact(one) <= exact(other))

    def is_greatest(one, other):
        return one is None or (other is not None and exact(one) >= exact(other))

    return any(is_least(low, interval[0]) and is_greatest(high, interval[1]) for low, high in intervals)


def made_by_trying(clause, interval):
    """The interval of what the clause makes of the interval."""
    factor, plus, least, most = clause
    low, high = [None if end is None else clause_value(clause, end) for end in interval]
    if factor == (0, 1):
        return (plus, plus)
    return (least if low is None else low, most if high is None else high)


def error_of_sure(plan, arrivals, views):
    starts = starts_of(plan)
    for word, table in (("arrivals", arrivals), ("views", views)):
        if tuple(start for start, _ in table) != starts:
            return (word, -1)
    arriving, seen = dict(arrivals), dict(views)
    if (None, None) not in arriving[()]:
        return ("begin", -1)
    if (None, None) not in seen[active_names(plan)]:
        return ("end", -1)
    clauses = {name: clause for name, clause, _ in plan[0]}
    for k, start in enumerate(starts):
        names = next_after(plan, start)
        for j, name in enumerate(names):
            longer = tuple(sorted((*start, name)))
            if not all(is_covered(made_by_trying(clauses[name], interval), arriving[longer]) for interval in arriving[start]):
                return ("arrives", (k, j))
            through = [seen_of_form(form_of_chain([clauses[name], bounds(interval)])) for interval in seen[longer]]
            if not all(is_covered(interval, seen[start]) for interval in through if interval is not None):
                return ("seen", (k, j))
        for (i, one), (j, other) in combinations(enumerate(names), 2):
            both = tuple(sorted((*start, one, other)))
            one, other = clauses[one], clauses[other]
            for interval in arriving[start]:
                for view in seen[both]:
                    if form_between(interval, one, other, view) != form_between(interval, other, one, view):
                        return ("noticed", (k, i, j))
    return None


def error_of_open(plan, amount, first, second):
    legal = orders_by_trying(plan)
    for word, order in (("first", first), ("second", second)):
        if order not in legal:
            return (word, -1)
    clauses = {name: clause for name, clause, _ in plan[0]}
    values = {chain_value([clauses[name] for name in order], amount) for order in (first, second)}
    return None if len(values) == 2 else ("same", -1)


def error_by_trying(plan, paper):
    return (error_of_open if paper[0] == "open" else error_of_sure)(plan, *paper[1:])


def changed(row, k, value):
    return row[:k] + (value,) + row[k + 1:]


def with_intervals(table, k, intervals):
    return changed(table, k, (table[k][0], intervals))


class Papers(unittest.TestCase):
    def assertError(self, plan, paper, word, at):
        with self.assertRaises(InvalidPaper) as caught:
            lets_sure(plan, paper)
        self.assertEqual((caught.exception.word, caught.exception.at), (word, at))
        self.assertEqual(repr(caught.exception.at), repr(at))

    def assertChecked(self, plan, paper):
        """The word of the first error, or None; the checker says what trying says."""
        error = error_by_trying(plan, paper)
        if error is None:
            self.assertEqual(lets_sure(plan, paper), paper[0])
            return None
        self.assertError(plan, paper, *error)
        return error[0]


class SurePapers(Papers):
    def test_accepted(self):
        self.assertGreater(len(SURE_PLANS), 10)
        self.assertGreater(len(OPEN_PLANS), 10)
        for plans, word in ((SURE_PLANS, "sure"), (OPEN_PLANS, "open")):
            for plan in plans:
                paper = sure_paper(plan)
                self.assertEqual(lets_sure(plan, paper), word)
                self.assertIsNone(self.assertChecked(plan, paper))

    def test_what_is_in_it(self):
        for plan in SURE_PLANS + OPEN_PLANS:
            paper = sure_paper(plan)
            self.assertIsInstance(paper, tuple)
            if paper[0] == "open":
                self.assertEqual(len(paper), 4)
                self.assertLessEqual(set(paper[2:]), set(orders_by_trying(plan)))
            else:
                self.assertEqual(len(paper), 3)
                for table in paper[1:]:
                    self.assertEqual(tuple(start for start, _ in table), starts_of(plan))

    def test_tables_of_all_arrivals_and_views(self):
        for plan in SURE_PLANS:
            arrivals = tuple((start, arrivals_at(plan, start)) for start in starts_of(plan))
            views = tuple((start, views_after(plan, start)) for start in starts_of(plan))
            self.assertEqual(lets_sure(plan, ("sure", arrivals, views)), "sure")
            backwards = [tuple((start, intervals[::-1]) for start, intervals in table) for table in (arrivals, views)]
            self.assertEqual(lets_sure(plan, ("sure", *backwards)), "sure")
            twice = [tuple((start, intervals * 2) for start, intervals in table) for table in (arrivals, views)]
            self.assertEqual(lets_sure(plan, ("sure", *twice)), "sure")

    def test_the_same_tables_for_open_plans(self):
        for plan in OPEN_PLANS:
            arrivals = tuple((start, arrivals_at(plan, start)) for start in starts_of(plan))
            views = tuple((start, views_after(plan, start)) for start in starts_of(plan))
            self.assertEqual(self.assertChecked(plan, ("sure", arrivals, views)), "noticed")

    def test_everything_everywhere(self):
        words = [self.assertChecked(plan, ("sure", everywhere(plan), everywhere(plan))) for plan in SURE_PLANS + OPEN_PLANS]
        self.assertEqual(set(words), {None, "noticed"})
        for plan in (ADDS, ((), ()), plan_of({"a": FOUR}), plan_of({"a": CAP, "b": FLOOR, "c": SAME}),
                     plan_of({"a": CUT, "b": OFF}, (("a", "b"),))):
            self.assertEqual(lets_sure(plan, ("sure", everywhere(plan), everywhere(plan))), "sure")

    def test_wider_intervals(self):
        accepted = 0
        for plan in (ARRIVING, SEEN, HIDDEN):
            _, arrivals, views = sure_paper(plan)
            for k in range(len(arrivals)):
                # Everything at one place, or one more interval there that is narrower or a single amount.
                for intervals in (ALL, arrivals[k][1] + (((50, 1), (50, 1)),), arrivals[k][1] + (((20, 1), (21, 1)),)):
                    accepted += self.assertChecked(plan, ("sure", with_intervals(arrivals, k, intervals), views)) is None
                for intervals in (ALL, views[k][1] + (((5, 1), (5, 1)),), views[k][1] + (((-3, 1), (7, 1)),)):
                    accepted += self.assertChecked(plan, ("sure", arrivals, with_intervals(views, k, intervals))) is None
        self.assertGreater(accepted, 30)
        lows = (None, (7, 1), (0, 1), (-5, 1), (0, 1))
        arrivals = tuple((start, ((low, None),)) for start, low in zip(starts_of(ARRIVING), lows))
        self.assertEqual(lets_sure(ARRIVING, ("sure", arrivals, everywhere(ARRIVING))), "sure")

    def test_a_view_of_a_single_amount_shows_nothing(self):
        for plan in (ADDS, ARRIVING):
            _, arrivals, views = sure_paper(plan)
            for k in range(len(views)):
                point = with_intervals(views, k, (((5, 1), (5, 1)),) + views[k][1])
                self.assertEqual(lets_sure(plan, ("sure", arrivals, point)), "sure")

    def test_by_name(self):
        self.assertEqual(lets_sure(plan=SALE, thing=sure_paper(plan=SALE)), "open")
        self.assertEqual(lets_sure(thing=sure_paper(ADDS), plan=ADDS), "sure")

    def test_example(self):
        ALL = ((None, None),)
        TABLE = (((), ALL), (("a",), ALL), (("a", "b"), ALL), (("b",), ALL))
        self.assertEqual(lets_sure(ADDS, ("sure", TABLE, TABLE)), "sure")


class Shape(Papers):
    def test_other_values(self):
        _, arrivals, views = sure_paper(ADDS)
        papers = [*ODD_VALUES, nested(30), "sure", "open", ("sure",), ("open",), ["sure", arrivals, views], ("sure", arrivals),
                  ("sure", arrivals, views, ()), ("open", arrivals, views), ("closed", arrivals, views), (None, arrivals, views),
                  (True, arrivals, views), ("Sure", arrivals, views), (("sure",), arrivals, views)]
        for paper in papers:
            self.assertError(ADDS, paper, "shape", -1)

    def test_tables(self):
        paper = sure_paper(ADDS)
        start, intervals = paper[1][1]
        rows = [[start, intervals], (start,), (start, intervals, ()), (list(start), intervals), (start, list(intervals)),
                (start, None), (None, intervals), ("a", intervals), (("A",), intervals), ((1,), intervals), (start, (None, None)),
                (start, ([None, None],)), (start, ((None,),)), (start, ((None, None, None),)), (start, ((1, 2),)),
                (start, (((1, 1), 2),)), (start, (((2, 4), None),)), (start, ((None, (1, 0)),)), (start, (((True, 1), None),)),
                (start, (((2, 1), (1, 1)),)), (start, (((1, 2), (1, 3)),)), (start, (((-1, 3), (-1, 2)),)), (start, (True,)),
                (start, intervals + (None,)), *[(start, (value,)) for value in ODD_VALUES],
                *[(start, value) for value in ODD_VALUES if value != ()]]
        for k in (1, 2):
            for row in rows:
                self.assertError(ADDS, changed(paper, k, changed(paper[k], 1, row)), "shape", -1)
            for table in (None, list(paper[k]), dict(paper[k]), paper[k] + ((),), (paper[k],), True, "table", *ODD_VALUES):
                if table != ():
                    self.assertError(ADDS, changed(paper, k, table), "shape", -1)

    def test_ends_that_are_equal_are_an_interval(self):
        paper = sure_paper(ADDS)
        for k in (1, 2):
            self.assertError(ADDS, changed(paper, k, with_intervals(paper[k], 0, (((1, 2), (1, 2)),))),
                             *(("begin", -1) if k == 1 else ("seen", (0, 0))))

    def test_open(self):
        paper = sure_paper(SALE)
        papers = [list(paper), paper[:3], paper + (None,), ("sure", *paper[1:])]
        for value in (None, True, 1, (2, 4), (1, 0), [1, 2], (True, 1), (1,), "1", *ODD_VALUES):
            papers.append(changed(paper, 1, value))
        for value in (None, "cut", ["cut", "off"], ("cut", None), ("Cut", "off"), (("cut",),), True):
            papers += [changed(paper, 2, value), changed(paper, 3, value)]
        for thing in papers:
            self.assertError(SALE, thing, "shape", -1)


class OpenErrors(Papers):
    def test_orders(self):
        amount, first, second = (100, 1), ("cut", "off"), ("off", "cut")
        self.assertEqual(lets_sure(SALE, ("open", amount, first, second)), "open")
        self.assertEqual(lets_sure(SALE, ("open", amount, second, first)), "open")
        for order in ((), ("cut",), ("cut", "cut"), ("cut", "off", "off"), ("cut", "zzz"), ("zzz", "off", "cut")):
            self.assertError(SALE, ("open", amount, order, second), "first", -1)
            self.assertError(SALE, ("open", amount, first, order), "second", -1)
            self.assertError(SALE, ("open", amount, order, order), "first", -1)
            self.assertError(SALE, ("open", (5, 1), order, second), "first", -1)
            self.assertError(SALE, ("open", (5, 1), first, order), "second", -1)
        plan = (SALE[0], (("off", "cut"),))
        self.assertError(plan, ("open", amount, first, second), "first", -1)
        self.assertError(plan, ("open", amount, second, first), "second", -1)

    def test_same(self):
        for amount in ((5, 1), (0, 1), (-7, 2)):
            self.assertError(SALE, ("open", amount, ("cut", "off"), ("off", "cut")), "same", -1)
        for amount in ((100, 1), (5, 1)):
            self.assertError(SALE, ("open", amount, ("cut", "off"), ("cut", "off")), "same", -1)
        for plan in SURE_PLANS:
            orders = orders_by_trying(plan)
            self.assertError(plan, ("open", (3, 7), orders[0], orders[-1]), "same", -1)

    def test_all_pairs_of_orders(self):
        for plan in OPEN_PLANS[:10]:
            amount = noticed(plan, *exchanges_noticed(plan)[0])[0]
            orders = orders_by_trying(plan)
            found = [self.assertChecked(plan, ("open", amount, one, other)) for one in orders[:8] for other in orders[-8:]]
            self.assertIn(None, found)


class SureErrors(Papers):
    def test_starts(self):
        for plan in (ADDS, ARRIVING):
            paper = sure_paper(plan)
            for k, word in ((1, "arrivals"), (2, "views")):
                table = paper[k]
                tables = [(), table[::-1], table + ((("zzz",), ALL),), table + table[-1:]]
                for j, (start, intervals) in enumerate(table):
                    tables += [table[:j] + table[j + 1:], table[:j] + table[j:j + 1] + table[j:]]
                    tables += [changed(table, j, (start + ("zzz",), intervals))]
                    tables += [changed(table, j, (start[::-1], intervals))] if len(start) > 1 else []
                    tables += [changed(changed(table, i, table[j]), j, table[i]) for i in range(j)]
                for given in tables:
                    self.assertError(plan, changed(paper, k, given), word, -1)
            self.assertError(plan, ("sure", paper[1][1:], paper[2][1:]), "arrivals", -1)

    def test_begin_and_end(self):
        for plan in (ADDS, ARRIVING, HIDDEN, ((), ())):
            paper = sure_paper(plan)
            last = starts_of(plan).index(active_names(plan))
            for intervals in ((), ((None, (5, 1)),), (((5, 1), None),), ((None, (10 ** 12, 1)), ((-(10 ** 12), 1), None))):
                self.assertError(plan, changed(paper, 1, with_intervals(paper[1], 0, intervals)), "begin", -1)
                self.assertError(plan, changed(paper, 2, with_intervals(paper[2], last, intervals)), "end", -1)
                both = ("sure", with_intervals(paper[1], 0, intervals), with_intervals(paper[2], last, intervals))
                self.assertError(plan, both, "begin", -1)

    def test_an_interval_left_out_or_made_narrower(self):
        words = set()
        for plan in (ADDS, ARRIVING, SEEN, HIDDEN, plan_of({"a": CAP, "b": FLOOR, "c": SAME})):
            paper = sure_paper(plan)
            for part in (1, 2):
                for k, (_, intervals) in enumerate(paper[part]):
                    for j, (low, high) in enumerate(intervals):
                        least = (-100, 1) if low is None else pair_of(exact(low) + exact((1, 7)))
                        most = (100, 1) if high is None else pair_of(exact(high) - exact((1, 7)))
                        others = intervals[:j] + intervals[j + 1:]
                        for given in (others, others + ((least, high),), ((low, most),) + others):
                            word = self.assertChecked(plan, changed(paper, part, with_intervals(paper[part], k, given)))
                            words.add(word)
        # Some of them are narrower than what arrives or is seen elsewhere, but wide enough.
        self.assertEqual(words, {None, "begin", "end", "arrives", "seen"})

    def test_arrives_and_seen_with_their_places(self):
        paper = sure_paper(ADDS)
        self.assertError(ADDS, changed(paper, 1, with_intervals(paper[1], 1, ())), "arrives", (0, 0))
        self.assertError(ADDS, changed(paper, 1, with_intervals(paper[1], 3, ())), "arrives", (0, 1))
        self.assertError(ADDS, changed(paper, 1, with_intervals(paper[1], 2, ())), "arrives", (1, 0))
        self.assertError(ADDS, changed(paper, 2, with_intervals(paper[2], 0, ())), "seen", (0, 0))
        self.assertError(ADDS, changed(paper, 2, with_intervals(paper[2], 1, ())), "seen", (1, 0))
        self.assertError(ADDS, changed(paper, 2, with_intervals(paper[2], 3, ())), "seen", (3, 0))
        # After a constant rule nothing is seen, so nothing is missing.
        plan = plan_of({"a": ADD, "z": FOUR}, (("a", "z"),))
        paper = sure_paper(plan)
        self.assertEqual(paper[2], (((), ()), (("a",), ()), (("a", "z"), ALL)))
        self.assertEqual(lets_sure(plan, paper), "sure")

    def test_one_rule_ahead_of_the_next_one(self):
        paper = sure_paper(ADDS)
        # The second rule leads to nothing that arrives, and the first one to nothing that is seen: the first one counts.
        both = ("sure", with_intervals(paper[1], 3, ()), with_intervals(paper[2], 0, ()))
        self.assertError(ADDS, both, "seen", (0, 0))
        both = ("sure", with_intervals(paper[1], 1, ()), with_intervals(paper[2], 0, ()))
        self.assertError(ADDS, both, "arrives", (0, 0))

    def test_noticed(self):
        self.assertError(SALE, ("sure", everywhere(SALE), everywhere(SALE)), "noticed", (0, 0, 1))
        _, arrivals, views = sure_paper(ARRIVING)
        wide = tuple((start, ALL) for start, _ in arrivals)
        k = starts_of(ARRIVING).index(("base",))
        self.assertError(ARRIVING, ("sure", wide, views), "noticed", (k, 0, 1))
        _, arrivals, views = sure_paper(SEEN)
        self.assertError(SEEN, ("sure", arrivals, everywhere(SEEN)), "noticed", (0, 0, 1))
        # The third pair of three next rules.
        plan = plan_of({"a": SAME, "b": CUT, "c": OFF})
        self.assertError(plan, ("sure", everywhere(plan), everywhere(plan)), "noticed", (0, 1, 2))
        plan = plan_of({"a": CUT, "b": SAME, "c": OFF})
        self.assertError(plan, ("sure", everywhere(plan), everywhere(plan)), "noticed", (0, 0, 2))

    def test_intervals_that_make_an_exchange_noticed(self):
        paper = ("sure", *[tuple((start, find(FIVE_OR_TEN, start)) for start in starts_of(FIVE_OR_TEN))
                           for find in (arrivals_at, views_after)])
        self.assertError(FIVE_OR_TEN, paper, "noticed", (0, 0, 1))
        # From ("cap", "floor") on, the interval from 5 to 10 makes one more exchange noticed.
        after = (FIVE_OR_TEN[0], tuple(sorted((*FIVE_OR_TEN[1], ("cap", "floor")))))
        paper = sure_paper(after)
        self.assertEqual(lets_sure(after, paper), "sure")
        k = starts_of(after).index(("cap", "floor"))
        self.assertEqual(paper[1][k][1], (((10, 1), (10, 1)),))
        wide = tuple((start, intervals + (((5, 1), (10, 1)),) if len(start) > 1 else intervals) for start, intervals in paper[1])
        self.assertError(after, ("sure", wide, paper[2]), "noticed", (k, 0, 1))

    def test_each_start_before_the_next_one(self):
        # What is noticed at () comes before what does not arrive behind it.
        table = everywhere(SALE)
        self.assertError(SALE, ("sure", with_intervals(table, 2, ()), table), "noticed", (0, 0, 1))
        self.assertError(SALE, ("sure", with_intervals(table, 1, ()), table), "arrives", (0, 0))
        self.assertError(SALE, ("sure", with_intervals(table, 3, ()), table), "arrives", (0, 1))

    def test_the_first_of_several_errors(self):
        paper = sure_paper(ARRIVING)
        starts = starts_of(ARRIVING)
        self.assertEqual(starts, ((), ("base",), ("base", "less"), ("base", "less", "zero"), ("base", "zero")))
        late = (((0, 1), (1, 1)),)
        changes = [
            (lambda given: changed(given, 2, [given[2]]), "shape", -1),
            (lambda given: changed(given, 1, given[1] + given[1][:1]), "arrivals", -1),
            (lambda given: changed(given, 2, given[2] + given[2][:1]), "views", -1),
            (lambda given: changed(given, 1, with_intervals(given[1], 0, ())), "begin", -1),
            (lambda given: changed(given, 2, with_intervals(given[2], 3, ())), "end", -1),
            (lambda given: changed(given, 1, with_intervals(given[1], 1, late)), "arrives", (0, 0)),
            (lambda given: changed(given, 2, with_intervals(given[2], 0, ())), "seen", (0, 0)),
            (lambda given: changed(given, 1, with_intervals(given[1], 2, late)), "arrives", (1, 0)),
            (lambda given: changed(given, 1, with_intervals(given[1], 4, late)), "arrives", (1, 1)),
        ]
        for change, word, at in changes:
            self.assertError(ARRIVING, change(paper), word, at)
        for (first, word, at), (second, _, _) in combinations(changes, 2):
            given = second(paper)
            self.assertError(ARRIVING, first(given), word, at)

    def test_papers_for_other_plans(self):
        paper = sure_paper(ADDS)
        self.assertError(SALE, paper, "arrivals", -1)
        self.assertError(((), ()), paper, "arrivals", -1)
        self.assertError((ADDS[0], (("a", "b"),)), paper, "arrivals", -1)
        other = plan_of({"a": CUT, "b": OFF})
        self.assertError(other, paper, "noticed", (0, 0, 1))
        self.assertEqual(lets_sure(plan_of({"a": LESS, "b": ADD}), paper), "sure")

    def test_random_changes(self):
        random = Random(11)
        words = set()
        for plan in [plan for plan in SURE_PLANS if len(active_names(plan)) > 1] + OPEN_PLANS[:4]:
            starts = starts_of(plan)
            tables = [{start: find(plan, start) for start in starts} for find in (arrivals_at, views_after)]
            for _ in range(15):
                found = [dict(table) for table in tables]
                for _ in range(random.randint(1, 3)):
                    start, table = random.choice(starts), random.choice(found)
                    low, high = sorted(random.sample(range(-30, 30), 2))
                    ends = random.choice((((low, 1), None), (None, (high, 1)), ((low, 1), (high, 1)), (None, None)))
                    table[start] = random.choice((table[start], ())) + (ends,)
                words.add(self.assertChecked(plan, ("sure", *[tuple(table.items()) for table in found])))
        self.assertEqual(words, {None, "begin", "end", "arrives", "seen", "noticed"})
