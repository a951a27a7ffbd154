import inspect
import unittest
from fractions import Fraction

from stackorder.bounds import greatest_pieces, least_pieces
from stackorder.follows import active_names
from stackorder.gaps import largest_gap, pieces_with_orders
from stackorder.kinds import is_fraction
from stackorder.orders import is_legal
from tests.helpers import exact
from tests.plans import (
    ADD, ADDS, CAP, CUT, DOUBLE, FLOOR, FOUR, LESS, OFF, PEAK, SALE, around, best_values, crossings, far_plan, five_plans, form_of,
    form_value, forms_of, long_plan, plan_of, small_plans, turns_of,
)

# 5 more, but at most 0.
RAISE = ((1, 1), (5, 1), None, (0, 1))


def line_value(piece, amount):
    return exact(piece[1]) * amount + exact(piece[2])


def amounts_on(piece, end, form):
    """Amounts of the piece that tell whether the chain is on it everywhere: also where the chain bends."""
    begin = piece[0]
    ends = [exact(bound) for bound in (begin, end) if bound is not None]
    low = exact(begin) if begin is not None else min(turns_of(form) + ends + [Fraction(0)]) - 10
    high = exact(end) if end is not None else max(turns_of(form) + ends + [Fraction(0)]) + 10
    bends = sorted([low, high] + [turn for turn in turns_of(form) if low <= turn <= high])
    return bends + [(one + other) / 2 for one, other in zip(bends, bends[1:])]


def is_on(piece, end, form):
    return all(form_value(form, amount) == line_value(piece, amount) for amount in amounts_on(piece, end, form))


def touches_inside(piece, end, form, amounts):
    """Whether the chain is on the piece at one of the amounts that lie inside it."""
    inside = [amount for amount in amounts if (piece[0] is None or exact(piece[0]) < amount) and (end is None or amount < exact(end))]
    return any(form_value(form, amount) == line_value(piece, amount) for amount in inside)


class PiecesWithOrders(unittest.TestCase):
    def assertOrders(self, plan, greatest):
        pieces = greatest_pieces(plan) if greatest else least_pieces(plan)
        rows = list(pieces_with_orders(plan, greatest=greatest))
        self.assertEqual([row[:3] for row in rows], list(pieces))
        for k, row in enumerate(rows):
            self.assertEqual([type(row), len(row)], [tuple, 4])
            self.assertIs(is_legal(plan, row[3]), True)
            end = rows[k + 1][0] if k + 1 < len(rows) else None
            self.assertTrue(is_on(row, end, form_of(plan, row[3])), (plan, row))

    def test_each_order_is_on_its_whole_piece(self):
        for plan in small_plans() + five_plans():
            self.assertOrders(plan, False)
            self.assertOrders(plan, True)

    def test_orders_that_leave_the_piece(self):
        # In each plan an order has the best outcome at an inner amount of a piece and leaves the piece:
        # a rising piece or a level one, of the least or of the greatest function.
        left = []
        for one, other, greatest in ((LESS, FLOOR, False), (ADD, CAP, True), (CUT, OFF, False), (RAISE, OFF, True)):
            for plan in (plan_of({"a": one, "b": other}), plan_of({"a": other, "b": one})):
                self.assertOrders(plan, greatest)
                rows = list(pieces_with_orders(plan, greatest=greatest))
                forms = forms_of(plan)
                amounts = around(crossings(forms))
                for row, end in zip(rows, [row[0] for row in rows[1:]] + [None]):
                    if any(touches_inside(row, end, form, amounts) and not is_on(row, end, form) for form in forms):
                        left.append((greatest, row[1] == (0, 1)))
        self.assertEqual(set(left), {(False, False), (True, False), (False, True), (True, True)})

    def test_without_active_rules(self):
        for plan in (((), ()), plan_of({"a": FOUR}, off="a")):
            for greatest in (False, True):
                self.assertEqual(list(pieces_with_orders(plan, greatest=greatest)), [(None, (1, 1), (0, 1), ())])

    def test_limits(self):
        for plan in (long_plan(), far_plan()):
            self.assertOrders(plan, False)
            self.assertOrders(plan, True)

    def test_a_generator(self):
        self.assertTrue(inspect.isgeneratorfunction(pieces_with_orders))
        rows = pieces_with_orders(SALE)
        self.assertIs(iter(rows), rows)
        self.assertEqual(next(rows)[0], None)

    def test_two_walked_at_once(self):
        plan = long_plan()
        least, greatest = list(pieces_with_orders(plan)), list(pieces_with_orders(plan, greatest=True))
        self.assertGreater(len(greatest), len(least))
        found = list(zip(pieces_with_orders(plan, greatest=True), pieces_with_orders(plan)))
        self.assertEqual(found, list(zip(greatest, least)))
        one, other = pieces_with_orders(plan, greatest=True), pieces_with_orders(plan, greatest=True)
        self.assertEqual([next(one), next(one), next(other), next(one), next(other)],
                         [greatest[0], greatest[1], greatest[0], greatest[2], greatest[1]])

    def test_by_name(self):
        self.assertEqual(list(pieces_with_orders(plan=SALE)), list(pieces_with_orders(SALE)))
        self.assertEqual(list(pieces_with_orders(greatest=True, plan=SALE))[1][3], ("cut", "off"))
        self.assertEqual(list(pieces_with_orders(SALE, greatest=False)), list(pieces_with_orders(SALE)))

    def test_example(self):
        self.assertEqual(list(pieces_with_orders(SALE)), [
            (None, (0, 1), (0, 1), ('off', 'cut')), ((50, 9), (9, 10), (-5, 1), ('off', 'cut')),
        ])


class LargestGap(unittest.TestCase):
    def assertGap(self, plan, amounts, least, greatest):
        """least and greatest are functions that find the bounds of an amount."""
        found = largest_gap(plan)
        self.assertEqual([type(found), len(found)], [tuple, 4])
        gap, amount, low, high = found
        self.assertIs(is_fraction(gap) and is_fraction(amount), True)
        self.assertIs(is_legal(plan, low) and is_legal(plan, high), True)
        at = exact(amount)
        self.assertEqual([form_value(form_of(plan, low), at), form_value(form_of(plan, high), at)], [least(at), greatest(at)])
        self.assertEqual(exact(gap), greatest(at) - least(at))
        for other in amounts:
            self.assertLessEqual(greatest(other) - least(other), exact(gap))

    def test_against_all_orders(self):
        for plan in small_plans() + five_plans():
            forms = forms_of(plan)
            self.assertGap(plan, around(crossings(forms)), lambda amount: min(form_value(form, amount) for form in forms),
                           lambda amount: max(form_value(form, amount) for form in forms))

    def test_limits(self):
        for plan in (long_plan(), far_plan()):
            active = active_names(plan)
            begins = sorted(exact(piece[0]) for piece in least_pieces(plan)[1:] + greatest_pieces(plan)[1:])
            self.assertGap(plan, around(begins)[::5], lambda amount: best_values(plan, amount, min)[active],
                           lambda amount: best_values(plan, amount, max)[active])

    def test_no_gap_and_the_same_gap_everywhere(self):
        self.assertEqual(largest_gap(ADDS)[0], (0, 1))
        self.assertEqual(largest_gap(((), ()))[0::2], ((0, 1), ()))
        self.assertEqual(largest_gap(plan_of({"a": ADD, "b": DOUBLE}))[0::2], ((5, 1), ("b", "a")))
        self.assertEqual(largest_gap(plan_of({"a": ADD, "b": FOUR}))[0], (5, 1))

    def test_a_gap_in_the_middle(self):
        # The outcomes are equal up to 5/2 and from 15/2 on; the gap grows up to 5 and falls from there.
        self.assertEqual(largest_gap(PEAK), ((5, 1), (5, 1), ("cut", "double", "top"), ("double", "cut", "top")))

    def test_by_name(self):
        self.assertEqual(largest_gap(plan=SALE), largest_gap(SALE))

    def test_example(self):
        self.assertEqual(largest_gap(SALE)[0], (1, 2))
