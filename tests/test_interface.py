"""The names and parameters of the interface, each in the file that lists it."""

import ast
import copy
import importlib
import inspect
import unittest
from pathlib import Path

from stackorder.askchecker import lets_ask, lets_deny
from stackorder.askpapers import ask_paper, deny_paper
from stackorder.books import Book
from stackorder.boundchecker import lets_bound
from stackorder.boundpapers import bound_paper
from stackorder.desk import Desk
from stackorder.errors import InvalidAmount, InvalidPaper, InvalidStep
from stackorder.gapchecker import lets_gap
from stackorder.gappapers import gap_paper
from stackorder.kinds import is_clause, is_fraction, is_integer, is_name, is_number
from stackorder.orders import is_legal
from stackorder.piecesums import are_pieces
from stackorder.plankinds import has_plan_shape
from stackorder.receiptchecker import lets_receipt
from stackorder.receiptpapers import receipt_paper
from stackorder.replaying import is_log
from stackorder.settlechecker import lets_settle
from stackorder.settlepapers import settle_paper
from stackorder.surechecker import lets_sure
from stackorder.surepapers import sure_paper
from tests.helpers import PLAN

PACKAGE = Path(__file__).resolve().parent.parent / "stackorder"

FUNCTIONS = {
    "kinds": {
        "is_integer": "(thing)", "is_number": "(thing)", "is_name": "(thing)", "is_fraction": "(thing)",
        "is_clause": "(thing)",
    },
    "fractions": {
        "fraction": "(numerator, denominator=1)", "fraction_sum": "(*fractions)", "fraction_product": "(*fractions)",
        "compared": "(one, other)",
    },
    "clauses": {
        "normal_form": "(factor, plus, *, low=None, high=None)", "clause_of": "(**named)", "applied": "(clause, amount)",
        "chained": "(*clauses)", "differs_at": "(one, other)", "commute": "(one, other)", "order_matters": "(*clauses)",
        "values_of": "(clause)",
    },
    "clausetexts": {"fraction_text": "(fraction)", "clause_text": "(clause)"},
    "clausereadings": {"fraction_read": "(text)", "clause_read": "(text, *, line=0)"},
    "plankinds": {"has_plan_shape": "(thing)"},
    "planchecker": {"lets_plan": "(thing)"},
    "follows": {"active_names": "(plan)", "follows_of": "(plan)"},
    "orders": {"orders_of": "(plan)", "is_legal": "(plan, thing)", "chain_of": "(plan, order)"},
    "starts": {"starts_of": "(plan)", "next_after": "(plan, start)", "last_of": "(plan, start)"},
    "piecesums": {
        "are_pieces": "(thing)", "value_at": "(pieces, amount)", "pieces_of": "(clause)",
        "pieces_after": "(clause, pieces)", "least_of": "(*functions)", "greatest_of": "(*functions)",
        "above_at": "(one, other)",
    },
    "bounds": {
        "least_pieces": "(plan, *, start=None)", "greatest_pieces": "(plan, *, start=None)", "least_at": "(plan, amount)",
        "greatest_at": "(plan, amount)",
    },
    "boundpapers": {"bound_paper": "(plan, *, greatest=False)"},
    "boundchecker": {"lets_bound": "(plan, thing, *, greatest=False)"},
    "sureness": {"sure_amounts": "(plan)", "is_sure_at": "(plan, amount)"},
    "gaps": {"pieces_with_orders": "(plan, *, greatest=False)", "largest_gap": "(plan)"},
    "gappapers": {"gap_paper": "(plan)"},
    "gapchecker": {"lets_gap": "(plan, thing)"},
    "arrivals": {"arrivals_at": "(plan, start)", "views_after": "(plan, start)"},
    "exchanges": {"noticed": "(plan, start, one, other)", "exchanges_noticed": "(plan)"},
    "surepapers": {"sure_paper": "(plan)"},
    "surechecker": {"lets_sure": "(plan, thing)"},
    "outcomes": {"outcomes_of": "(plan, amount)", "questions_of": "(plan)"},
    "settling": {
        "narrowed": "(plan, *answers)", "settled_by": "(plan, amount, *answers)", "settling_sets": "(plan, amount)",
    },
    "settlepapers": {"settle_paper": "(plan, amount)"},
    "settlechecker": {"lets_settle": "(plan, amount, thing)"},
    "asking": {"questions_needed": "(plan, amount)"},
    "askpapers": {"ask_paper": "(plan, amount)", "deny_paper": "(plan, amount, size)"},
    "askchecker": {"lets_ask": "(plan, amount, thing)", "lets_deny": "(plan, amount, size, thing)"},
    "takes": {"values_before": "(plan, amount, name)", "take_of": "(plan, amount, name)"},
    "receipts": {"orders_fitting": "(plan, receipt)", "surely_before": "(plan, receipt)"},
    "receiptpapers": {"receipt_paper": "(plan, receipt)"},
    "receiptchecker": {"lets_receipt": "(plan, receipt, thing)"},
    "replaying": {"is_log": "(thing)", "replayed": "(log)"},
    "steplines": {"step_line": "(step)", "log_lines": "(log)"},
    "linereadings": {"read_step": "(text)", "read_log": "(lines)"},
}

GENERATORS = ("orders_of", "pieces_with_orders", "orders_fitting")

CLASSES = {
    "errors": (
        "StackError", "PaperError", "PlanError", "TextError", "InvalidPaper", "InvalidStep", "UnknownName", "NothingToUndo",
        "InvalidAmount", "InvalidText", "InvalidCommand",
    ),
    "clauseclasses": (
        "Clause", "Scaled", "Shifted", "Bounded", "Fixed", "Percent", "Floor", "Cap", "Claim", "Fee", "Voucher", "General",
    ),
    "books": ("Book",),
    "desk": ("Desk",),
}

# The methods of these classes as they are called on an object.
METHODS = {
    Book: {
        "empty": "()", "made": "(*pairs, **clauses)", "read": "(text)", "amount_of": "(text)", "add_rule": "(name, clause)",
        "drop_rule": "(name)", "switch_rule": "(name, is_on)", "put_before": "(first, second)", "take_before": "(first, second)",
        "go": "(step)", "set_amount": "(value)", "barred": "(step)", "do_all": "(*steps, keep=False)", "tried": "(*steps)",
        "walk": "()", "pieces_now": "(*, greatest=False)", "log": "()", "undo": "()", "counts": "()", "__len__": "()",
        "__str__": "()", "__eq__": "(other)",
    },
    Desk: {"say": "(text)", "counts": "()"},
}

AMOUNT = (18, 1)
RECEIPT = (AMOUNT, (7, 1), ())
CHECKS = ((lets_settle, AMOUNT), (lets_ask, AMOUNT), (lets_deny, AMOUNT, 0), (lets_receipt, RECEIPT))
PAPERS = (
    bound_paper(PLAN), gap_paper(PLAN), sure_paper(PLAN), settle_paper(PLAN, AMOUNT), ask_paper(PLAN, AMOUNT),
    deny_paper(PLAN, AMOUNT, 0), receipt_paper(PLAN, RECEIPT),
)


def defined_in(name):
    tree = ast.parse((PACKAGE / f"{name}.py").read_text())
    return {row.name: row for row in tree.body if isinstance(row, (ast.FunctionDef, ast.ClassDef))}


class Interface(unittest.TestCase):
    def test_functions_and_parameters(self):
        for file, functions in FUNCTIONS.items():
            module = importlib.import_module(f"stackorder.{file}")
            for name, parameters in functions.items():
                self.assertIsInstance(defined_in(file).get(name), ast.FunctionDef, name)
                self.assertEqual(str(inspect.signature(getattr(module, name))), parameters, name)

    def test_classes(self):
        for file, names in CLASSES.items():
            for name in names:
                self.assertIsInstance(defined_in(file).get(name), ast.ClassDef, name)

    def test_books_and_desks(self):
        self.assertEqual(str(inspect.signature(Book)), "(*, plan=((), ()), amount=(0, 1))")
        self.assertEqual(str(inspect.signature(Desk)), "()")
        for made, methods in METHODS.items():
            for name, parameters in methods.items():
                self.assertIn(name, vars(made))
                self.assertEqual(str(inspect.signature(getattr(made(), name))), parameters, name)
        for name in ("plan", "amount", "spread", "is_sure", "open_questions"):
            self.assertIsInstance(vars(Book)[name], property)
            self.assertEqual(vars(Book)[name].fset is not None, name == "amount")
        for name in METHODS[Book]:
            self.assertIs(isinstance(vars(Book)[name], classmethod), name in ("empty", "made", "read"))
            self.assertIs(isinstance(vars(Book)[name], staticmethod), name == "amount_of")
            self.assertIs(inspect.isgeneratorfunction(vars(Book)[name]), name in ("walk", "pieces_now"))
        self.assertEqual(vars(Book)["MOST"], 12)

    def test_generators(self):
        for file, functions in FUNCTIONS.items():
            module = importlib.import_module(f"stackorder.{file}")
            for name in functions:
                self.assertIs(inspect.isgeneratorfunction(getattr(module, name)), name in GENERATORS, name)

    def test_arguments_are_not_changed(self):
        rules, pairs = PLAN
        values = [[], [1, [2]], [(1, 2)], ([1], [2]), [rules, pairs], ([*rules], []), [["a"], "b"], (["a", "b"],), [[None]]]
        before = copy.deepcopy(values)
        for thing in values:
            for kind in (is_integer, is_number, is_name, is_fraction, is_clause, has_plan_shape, are_pieces, is_log):
                self.assertIs(kind(thing), False)
            self.assertIs(is_legal(PLAN, thing), False)
            for check in (lets_bound, lets_gap, lets_sure):
                with self.assertRaises(InvalidPaper):
                    check(PLAN, thing)
            for check, *known in CHECKS:
                with self.assertRaises(InvalidPaper):
                    check(PLAN, *known, thing)
            with self.assertRaises(InvalidStep):
                Book().go(thing)
            with self.assertRaises(InvalidAmount):
                Book().amount = thing
        self.assertEqual(values, before)

    def test_papers_with_lists_in_them_are_not_changed(self):
        for (check, *known), paper in zip((*[(check,) for check in (lets_bound, lets_gap, lets_sure)], *CHECKS), PAPERS):
            check(PLAN, *known, paper)
            for k in range(len(paper)):
                thing = [*paper[:k], [paper[k]], *paper[k + 1:]]
                before = copy.deepcopy(thing)
                with self.assertRaises(InvalidPaper):
                    check(PLAN, *known, thing)
                with self.assertRaises(InvalidPaper):
                    check(PLAN, *known, tuple(thing))
                self.assertEqual(thing, before)
