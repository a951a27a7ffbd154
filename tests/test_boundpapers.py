import unittest
from itertools import combinations
from random import Random

from stackorder.boundchecker import lets_bound
from stackorder.boundpapers import bound_paper
from stackorder.bounds import greatest_pieces, least_pieces
from stackorder.errors import InvalidPaper
from stackorder.follows import active_names
from stackorder.piecesums import above_at, are_pieces, greatest_of, least_of, pieces_of
from stackorder.starts import last_of, starts_of
from tests.helpers import ODD_VALUES, clause_value, exact, nested, orders_by_trying, pair_of, pieces_value
from tests.plans import (
    ADD, ADDS, CAP, CUT, DOUBLE, FIVE_OR_TEN, FOUR, HIDDEN, OFF, SALE, around, crossings, far_plan, five_plans, form_value,
    forms_of, long_plan, plan_of, small_plans,
)

IDENTITY = ((None, (1, 1), (0, 1)),)
LINE = ((None, (1, 1), (1, 1)),)
# Two open rules, and a last one; every function has several starts before it.
THREE = plan_of({"cut": CUT, "off": OFF, "top": CAP}, (("cut", "top"),))
# What the last rule makes does not depend on the rules before it.
LEVEL = plan_of({"cut": CUT, "off": OFF, "z": FOUR}, (("cut", "z"), ("off", "z")))


def moved(pieces, by):
    return tuple((begin, factor, pair_of(exact(plus) + by)) for begin, factor, plus in pieces)


def raised_near(pieces, amount):
    """The function, but higher close to the amount."""
    top = pair_of(exact(pieces_value(pieces, amount)) + 1)
    steep = ((10 ** 6, 1), pair_of(exact(top) - 10 ** 6 * exact(amount)))
    return greatest_of(pieces, pieces_of((*steep, None, top)))


def lowered_near(pieces, amount):
    """The function, but lower close to the amount."""
    bottom = pair_of(exact(pieces_value(pieces, amount)) - 1)
    steep = ((10 ** 6, 1), pair_of(exact(bottom) - 10 ** 6 * exact(amount)))
    return least_of(pieces, pieces_of((*steep, bottom, None)))


def places_of(pieces):
    """Amounts at the begins of the function, between them and on both sides."""
    return [pair_of(amount) for amount in around([exact(piece[0]) for piece in pieces[1:]])]


def passes(pieces, clause, rest, greatest):
    """Whether the clause applied to the function rest is somewhere below (above) the pieces."""
    amounts = [exact(piece[0]) for piece in pieces[1:] + rest[1:]]
    turns = [(exact(bound) - exact(clause[1])) / exact(clause[0]) for bound in clause[2:] if bound is not None]
    for _, factor, plus in rest:
        amounts += [(turn - exact(plus)) / exact(factor) for turn in turns if factor != (0, 1)]
    amounts = sorted({*amounts, -10 ** 60, 10 ** 60})
    for amount in around(amounts):
        reached = exact(clause_value(clause, pieces_value(rest, pair_of(amount))))
        allowed = exact(pieces_value(pieces, pair_of(amount)))
        if (reached > allowed) if greatest else (reached < allowed):
            return True
    return False


def error_by_trying(plan, paper, greatest):
    """The word and the place of the first error, or None."""
    table, orders = paper
    starts = starts_of(plan)
    if tuple(start for start, _ in table) != starts:
        return ("starts", -1)
    functions = dict(table)
    if functions[()] != IDENTITY:
        return ("identity", -1)
    clauses = {name: clause for name, clause, _ in plan[0]}
    for k, start in enumerate(starts):
        for r, name in enumerate(last_of(plan, start)):
            rest = functions[tuple(other for other in start if other != name)]
            if passes(functions[start], clauses[name], rest, greatest):
                return ("bound", (k, r))
    legal = orders_by_trying(plan)
    for j, order in enumerate(orders):
        if order not in legal:
            return ("order", j)
    forms = [form for order in orders for form in forms_of((plan[0], tuple(zip(order, order[1:]))))]
    pieces = functions[active_names(plan)]
    pick = max if greatest else min
    for amount in around(sorted({*crossings(forms), *[exact(piece[0]) for piece in pieces[1:]], -10 ** 60, 10 ** 60})):
        values = [form_value(form, amount) for form in forms]
        if not values or pick(values) != exact(pieces_value(pieces, pair_of(amount))):
            return ("reach", -1)
    return None


class Papers(unittest.TestCase):
    def assertError(self, plan, paper, greatest, word, at):
        with self.assertRaises(InvalidPaper) as caught:
            lets_bound(plan, paper, greatest=greatest)
        self.assertEqual((caught.exception.word, caught.exception.at), (word, at))
        self.assertEqual(repr(caught.exception.at), repr(at))

    def assertChecked(self, plan, paper, greatest):
        """Whether the paper is accepted; in any case the checker says what trying says."""
        error = error_by_trying(plan, paper, greatest)
        if error is not None:
            self.assertError(plan, paper, greatest, *error)
            return False
        pieces = lets_bound(plan, paper, greatest=greatest)
        self.assertEqual(pieces, greatest_pieces(plan) if greatest else least_pieces(plan))
        return True


class BoundPapers(Papers):
    def test_accepted(self):
        for plan in small_plans() + five_plans():
            self.assertEqual(lets_bound(plan, bound_paper(plan)), least_pieces(plan))
            self.assertEqual(lets_bound(plan, bound_paper(plan, greatest=True), greatest=True), greatest_pieces(plan))

    def test_what_is_in_it(self):
        for plan in small_plans():
            for greatest in (False, True):
                table, orders = bound_paper(plan, greatest=greatest)
                self.assertEqual([type(table), type(orders)], [tuple, tuple])
                self.assertEqual(tuple(start for start, _ in table), starts_of(plan))
                self.assertTrue(all(are_pieces(pieces) for _, pieces in table))
                self.assertLessEqual(set(orders), set(orders_by_trying(plan)))
                self.assertIsNone(error_by_trying(plan, (table, orders), greatest))

    def test_limits(self):
        for plan in (long_plan(), far_plan()):
            for greatest in (False, True):
                paper = bound_paper(plan, greatest=greatest)
                self.assertEqual(len(paper[0]), 200)
                pieces = lets_bound(plan, paper, greatest=greatest)
                self.assertEqual(pieces, greatest_pieces(plan) if greatest else least_pieces(plan))
                self.assertError(plan, (paper[0], ()), greatest, "reach", -1)

    def test_by_name(self):
        paper = bound_paper(plan=SALE, greatest=True)
        self.assertEqual(paper, bound_paper(greatest=True, plan=SALE))
        self.assertEqual(lets_bound(plan=SALE, thing=paper, greatest=True), greatest_pieces(SALE))
        self.assertEqual(lets_bound(greatest=False, thing=bound_paper(SALE, greatest=False), plan=SALE), least_pieces(SALE))

    def test_example(self):
        self.assertError(((), ()), ((((), ((None, (1, 1), (0, 1)),)),), ()), False, "reach", -1)


class AcceptedPapers(Papers):
    def test_all_legal_orders(self):
        for plan in small_plans() + five_plans()[::2]:
            orders = tuple(orders_by_trying(plan))
            for greatest in (False, True):
                table, found = bound_paper(plan, greatest=greatest)
                pieces = greatest_pieces(plan) if greatest else least_pieces(plan)
                for given in (orders, orders[::-1], orders + orders[:2], found * 2, found + orders[-1:]):
                    self.assertEqual(lets_bound(plan, (table, given), greatest=greatest), pieces)

    def test_smaller_starts_lower_than_their_functions(self):
        for greatest in (False, True):
            table, orders = bound_paper(LEVEL, greatest=greatest)
            for by in (1, 100):
                lower = tuple((start, moved(pieces, (by if greatest else -by) * len(start)) if "z" not in start else pieces)
                              for start, pieces in table)
                self.assertNotEqual(lower, table)
                self.assertEqual(lets_bound(LEVEL, (lower, orders), greatest=greatest), ((None, (0, 1), (4, 1)),))

    def test_smaller_starts_changed_in_one_place(self):
        accepted = {False: 0, True: 0}
        for plan in (THREE, LEVEL, FIVE_OR_TEN, HIDDEN):
            for greatest in (False, True):
                table, orders = bound_paper(plan, greatest=greatest)
                for k, (start, pieces) in enumerate(table[:-1]):
                    for amount in places_of(pieces):
                        changed = raised_near(pieces, amount) if greatest else lowered_near(pieces, amount)
                        paper = (table[:k] + ((start, changed),) + table[k + 1:], orders)
                        accepted[greatest] += self.assertChecked(plan, paper, greatest) and changed != pieces
        self.assertGreater(accepted[False], 5)
        self.assertGreater(accepted[True], 5)


class Errors(Papers):
    def test_shape(self):
        table, orders = bound_paper(SALE)
        (start, pieces), order = table[2], orders[0]
        rows = [[start, pieces], (start,), (start, pieces, None), (list(start), pieces), (start, list(pieces)), (start, ()),
                (start, (pieces[0], pieces[0])), (start, pieces[1:]), (start, pieces[::-1]), (start, (pieces[0][:2],)),
                (("Cut",), pieces), (("cut", 1), pieces), ("cut", pieces), (None, pieces), (start, None), pieces,
                (start, ((None, (True, 1), (0, 1)),)), (start, ((None, (2, 2), (0, 1)),)), (start, ((None, (-1, 1), (0, 1)),)),
                (start, (pieces[0], (pieces[1][0], pieces[1][1], (0, 1))))]
        papers = [(table[:2] + (row,) + table[3:], orders) for row in rows]
        papers += [(table[:2] + (value,) + table[3:], orders) for value in ODD_VALUES]
        papers += [(table, (value,) + orders) for value in ODD_VALUES if value not in ((), ("a",))]
        papers += [(table, orders + (list(order),)), (table, (order + (1,),)), (table, (order + ("",),)), (table, (order[0],))]
        papers += [(list(table), orders), (table, list(orders)), [table, orders], (table,), (table, orders, ()), (orders, table)]
        papers += [(table, None), (None, orders), (dict(table), orders), (table, {}), nested(30), *ODD_VALUES]
        for paper in papers:
            for greatest in (False, True):
                self.assertError(SALE, paper, greatest, "shape", -1)

    def test_shape_without_rules(self):
        for paper in (*ODD_VALUES, ((((), ()),), ((),)), ((((), IDENTITY),), ())[:1], ((((), IDENTITY),), None)):
            self.assertError(((), ()), paper, False, "shape", -1)
        self.assertEqual(lets_bound(((), ()), ((((), IDENTITY),), ((),))), IDENTITY)
        self.assertError(((), ()), ((), ((),)), False, "starts", -1)

    def test_starts(self):
        for plan in (SALE, THREE, FIVE_OR_TEN):
            for greatest in (False, True):
                table, orders = bound_paper(plan, greatest=greatest)
                tables = [(), table[::-1], table + ((("zzz",), IDENTITY),), (((), IDENTITY),) + table]
                for k, (start, pieces) in enumerate(table):
                    tables += [table[:k] + table[k + 1:], table[:k] + table[k:k + 1] + table[k:]]
                    tables += [table[:k] + ((start + ("zzz",), pieces),) + table[k + 1:]]
                    tables += [table[:k] + ((start[::-1], pieces),) + table[k + 1:]] if len(start) > 1 else []
                    for j in range(k):
                        tables.append(table[:j] + (table[k],) + table[j + 1:k] + (table[j],) + table[k + 1:])
                for given in tables:
                    self.assertError(plan, (given, orders), greatest, "starts", -1)

    def test_starts_of_a_plan_with_another_pair(self):
        more = (SALE[0], (("off", "cut"),))
        for greatest in (False, True):
            self.assertError(SALE, bound_paper(more, greatest=greatest), greatest, "starts", -1)
            self.assertError(more, bound_paper(SALE, greatest=greatest), greatest, "starts", -1)
        chain = plan_of({"a": CUT, "b": OFF, "c": CAP}, (("a", "b"), ("b", "c")))
        same = (chain[0], (("a", "b"), ("a", "c"), ("b", "c")))
        self.assertEqual(lets_bound(same, bound_paper(chain)), least_pieces(chain))
        self.assertEqual(lets_bound(chain, bound_paper(same)), least_pieces(chain))

    def test_starts_with_a_rule_switched(self):
        idle = (tuple((name, clause, name != "off") for name, clause, _ in SALE[0]), ())
        self.assertError(idle, bound_paper(SALE), False, "starts", -1)
        self.assertError(SALE, bound_paper(idle), False, "starts", -1)

    def test_identity(self):
        for plan in (SALE, THREE, ((), ()), plan_of({"a": FOUR}, off="a")):
            for greatest in (False, True):
                table, orders = bound_paper(plan, greatest=greatest)
                for pieces in (LINE, moved(IDENTITY, -1), ((None, (0, 1), (0, 1)),), lowered_near(IDENTITY, (3, 1))):
                    self.assertError(plan, ((((), pieces),) + table[1:], orders), greatest, "identity", -1)

    def test_bound(self):
        for plan in (SALE, THREE, FIVE_OR_TEN, small_plans()[-11]):
            for greatest in (False, True):
                table, orders = bound_paper(plan, greatest=greatest)
                for k, (start, pieces) in enumerate(table[1:], 1):
                    changes = [moved(pieces, by) for by in (-1, 1)]
                    changes += [raised_near(pieces, amount) for amount in places_of(pieces)[::2]]
                    changes += [lowered_near(pieces, amount) for amount in places_of(pieces)[::2]]
                    for changed in changes:
                        self.assertChecked(plan, (table[:k] + ((start, changed),) + table[k + 1:], orders), greatest)

    def test_raised_or_lowered_at_one_place(self):
        for greatest in (False, True):
            for plan in (SALE, THREE):
                table, orders = bound_paper(plan, greatest=greatest)
                for k, (start, pieces) in enumerate(table[1:], 1):
                    for amount in places_of(pieces):
                        changed = lowered_near(pieces, amount) if greatest else raised_near(pieces, amount)
                        paper = (table[:k] + ((start, changed),) + table[k + 1:], orders)
                        with self.assertRaises(InvalidPaper) as caught:
                            lets_bound(plan, paper, greatest=greatest)
                        self.assertEqual([caught.exception.word, caught.exception.at[0]], ["bound", k])

    def test_which_last_rule(self):
        # One of the orders has the least outcomes, the other one the greatest ones.
        for plan, names, first, second in ((SALE, ("cut", "off"), 0, 1), (plan_of({"a": OFF, "b": CUT}), ("a", "b"), 1, 0)):
            table, orders = bound_paper(plan)
            changed = table[:2] + ((names, greatest_pieces(plan)),) + table[3:]
            self.assertError(plan, (changed, orders), False, "bound", (2, first))
            table, orders = bound_paper(plan, greatest=True)
            changed = table[:2] + ((names, least_pieces(plan)),) + table[3:]
            self.assertError(plan, (changed, orders), True, "bound", (2, second))

    def test_order(self):
        for plan in (SALE, THREE, FIVE_OR_TEN):
            for greatest in (False, True):
                table, orders = bound_paper(plan, greatest=greatest)
                legal = orders_by_trying(plan)
                wrong = [legal[0][1:], legal[0] + legal[0][:1], legal[0][:-1] + ("zzz",), (), ("zzz",)]
                wrong += [legal[0][:1] * len(legal[0])]
                for order in wrong:
                    for j in range(len(orders) + 1):
                        given = orders[:j] + (order,) + orders[j:] + (order,)
                        self.assertError(plan, (table, given), greatest, "order", j)
                self.assertError(plan, (table, (wrong[0],)), greatest, "order", 0)
        table, orders = bound_paper(THREE)
        self.assertError(THREE, (table, orders + (("off", "top", "cut"),)), False, "order", len(orders))

    def test_reach(self):
        found = []
        for plan in (SALE, THREE, ADDS, FIVE_OR_TEN, *small_plans()[-14::3]):
            legal = orders_by_trying(plan)
            for greatest in (False, True):
                table, orders = bound_paper(plan, greatest=greatest)
                self.assertError(plan, (table, ()), greatest, "reach", -1)
                givens = [legal[k:k + 2] for k in range(len(legal))] + [orders[:k] + orders[k + 1:] for k in range(len(orders))]
                for given in givens:
                    found.append(self.assertChecked(plan, (table, tuple(given)), greatest))
        self.assertIn(True, found)
        self.assertIn(False, found)

    def test_reach_of_a_function_that_is_too_low(self):
        for greatest in (False, True):
            for plan in (SALE, THREE, ADDS):
                table, orders = bound_paper(plan, greatest=greatest)
                active = active_names(plan)
                k = [start for start, _ in table].index(active)
                for amount in places_of(table[k][1]):
                    changed = raised_near(table[k][1], amount) if greatest else lowered_near(table[k][1], amount)
                    paper = (table[:k] + ((active, changed),) + table[k + 1:], orders)
                    self.assertError(plan, paper, greatest, "reach", -1)

    def test_a_paper_for_the_other_word(self):
        for plan in small_plans() + five_plans()[:2]:
            for greatest in (False, True):
                self.assertChecked(plan, bound_paper(plan, greatest=not greatest), greatest)
        self.assertError(SALE, bound_paper(SALE), True, "bound", (2, 1))
        self.assertError(SALE, bound_paper(SALE, greatest=True), False, "bound", (2, 0))
        self.assertEqual(lets_bound(ADDS, bound_paper(ADDS), greatest=True), ((None, (1, 1), (3, 1)),))

    def test_a_paper_for_another_plan(self):
        other = plan_of({"cut": CUT, "off": DOUBLE})
        for greatest in (False, True):
            self.assertChecked(other, bound_paper(SALE, greatest=greatest), greatest)
            self.assertChecked(SALE, bound_paper(other, greatest=greatest), greatest)

    def test_random_changes(self):
        random = Random(3)
        for plan in [*small_plans()[-10:], THREE]:
            for greatest in (False, True):
                table, orders = bound_paper(plan, greatest=greatest)
                for _ in range(12):
                    rows = list(table)
                    for _ in range(random.randint(1, 3)):
                        k = random.randrange(1, len(rows))
                        near = random.choice((raised_near, lowered_near))
                        rows[k] = (rows[k][0], near(rows[k][1], random.choice(places_of(rows[k][1]))))
                    self.assertChecked(plan, (tuple(rows), orders), greatest)


class SeveralErrors(Papers):
    def test_the_first_one_is_raised(self):
        for greatest in (False, True):
            by = -1 if greatest else 1

            def shape(table, orders):
                return (table, orders + ((1,),))

            def starts(table, orders):
                return (table[:-1] + ((("zzz",), table[-1][1]),), orders)

            def identity(table, orders):
                return ((((), LINE),) + table[1:], orders)

            def late_bound(table, orders):
                return (table[:-1] + ((table[-1][0], moved(table[-1][1], 3 * by)),), orders)

            def early_bound(table, orders):
                return (table[:1] + ((table[1][0], moved(table[1][1], 200 * by)),) + table[2:], orders)

            def order(table, orders):
                return (table, (orders[0][::-1],) + orders)

            def reach(table, orders):
                rows = [(start, moved(pieces, -100 * by) if len(start) == 3 else pieces) for start, pieces in table]
                return (tuple(rows), orders)

            paper = bound_paper(THREE, greatest=greatest)
            self.assertEqual([start for start, _ in paper[0]],
                             [(), ("cut",), ("cut", "off"), ("cut", "off", "top"), ("cut", "top"), ("off",)])
            changes = [(shape, "shape", -1), (starts, "starts", -1), (identity, "identity", -1), (early_bound, "bound", (1, 0)),
                       (late_bound, "bound", (5, 0)), (order, "order", 0), (reach, "reach", -1)]
            for change, word, at in changes:
                self.assertError(THREE, change(*paper), greatest, word, at)
            for (change, word, at), (other, _, _) in combinations(changes, 2):
                self.assertError(THREE, change(*other(*paper)), greatest, word, at)
            for k, (_, word, at) in enumerate(changes):
                changed = paper
                for change, _, _ in changes[:k - 1 if k else None:-1]:
                    changed = change(*changed)
                self.assertError(THREE, changed, greatest, word, at)

    def test_order_comes_before_reach(self):
        table, _ = bound_paper(SALE)
        self.assertError(SALE, (table, (("cut", "off"), ("cut",))), False, "order", 1)
        self.assertError(SALE, (table, (("cut", "off"),)), False, "reach", -1)

    def test_the_rules_of_one_start_are_checked_in_order(self):
        table, orders = bound_paper(ADDS)
        rows = tuple((start, moved(pieces, 1) if len(start) == 2 else pieces) for start, pieces in table)
        self.assertError(ADDS, (rows, orders), False, "bound", (2, 0))
        lower = tuple((start, moved(pieces, -1) if start == ("a",) else pieces) for start, pieces in table)
        self.assertError(ADDS, (lower, orders), False, "bound", (2, 1))
        lower = tuple((start, moved(pieces, -1) if start == ("b",) else pieces) for start, pieces in table)
        self.assertError(ADDS, (lower, orders), False, "bound", (2, 0))


class ShortParts(Papers):
    def test_a_part_that_only_a_fine_look_finds(self):
        # The function is raised between two amounts that lie close together, and nowhere else.
        table, orders = bound_paper(ADDS)
        low, high = (5, 1), (5 * 10 ** 6 + 1, 10 ** 6)
        bump = pieces_of(((10 ** 6, 1), pair_of(8 - 5 * 10 ** 6), None, pair_of(exact(high) + 3)))
        changed = greatest_of(table[2][1], bump)
        self.assertEqual([piece[0] for piece in changed], [None, low, changed[2][0], high])
        self.assertIsNotNone(above_at(changed, table[2][1]))
        self.assertEqual(pieces_value(changed, low), (8, 1))
        self.assertError(ADDS, (table[:2] + ((("a", "b"), changed),) + table[3:], orders), False, "bound", (2, 0))

    def test_large_numbers(self):
        clause = ((10 ** 12 - 1, 10 ** 6), (-(10 ** 12), 999983), None, (10 ** 12, 1))
        plan = plan_of({"a": clause, "b": ADD})
        for greatest in (False, True):
            paper = bound_paper(plan, greatest=greatest)
            self.assertTrue(self.assertChecked(plan, paper, greatest))
            changed = moved(paper[0][2][1], exact((-1 if greatest else 1, 10 ** 50)))
            self.assertFalse(self.assertChecked(plan, (paper[0][:2] + ((("a", "b"), changed),) + paper[0][3:], paper[1]), greatest))
