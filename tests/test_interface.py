"""The names and parameters of the interface, each in the file that lists it."""

import ast
import copy
import importlib
import inspect
import unittest
from pathlib import Path

from stackorder.boundchecker import lets_bound
from stackorder.boundpapers import bound_paper
from stackorder.errors import InvalidPaper
from stackorder.gapchecker import lets_gap
from stackorder.gappapers import gap_paper
from stackorder.kinds import is_clause, is_fraction, is_integer, is_name, is_number
from stackorder.orders import is_legal
from stackorder.piecesums import are_pieces
from stackorder.plankinds import has_plan_shape
from stackorder.surechecker import lets_sure
from stackorder.surepapers import sure_paper
from tests.helpers import PLAN

PACKAGE = Path(__file__).resolve().parent.parent / "stackorder"

FUNCTIONS = {
    "kinds": {
        "is_integer": "(thing)", "is_number": "(thing)", "is_name": "(thing)", "is_fraction": "(thing)",
        "is_clause": "(thing)",
    },
    "fractions": {
        "fraction": "(numerator, denominator=1)", "fraction_sum": "(*fractions)", "fraction_product": "(*fractions)",
        "compared": "(one, other)",
    },
    "clauses": {
        "normal_form": "(factor, plus, *, low=None, high=None)", "clause_of": "(**named)", "applied": "(clause, amount)",
        "chained": "(*clauses)", "differs_at": "(one, other)", "commute": "(one, other)", "order_matters": "(*clauses)",
        "values_of": "(clause)",
    },
    "clausetexts": {"fraction_text": "(fraction)", "clause_text": "(clause)"},
    "clausereadings": {"fraction_read": "(text)", "clause_read": "(text, *, line=0)"},
    "plankinds": {"has_plan_shape": "(thing)"},
    "planchecker": {"lets_plan": "(thing)"},
    "follows": {"active_names": "(plan)", "follows_of": "(plan)"},
    "orders": {"orders_of": "(plan)", "is_legal": "(plan, thing)", "chain_of": "(plan, order)"},
    "starts": {"starts_of": "(plan)", "next_after": "(plan, start)", "last_of": "(plan, start)"},
    "piecesums": {
        "are_pieces": "(thing)", "value_at": "(pieces, amount)", "pieces_of": "(clause)",
        "pieces_after": "(clause, pieces)", "least_of": "(*functions)", "greatest_of": "(*functions)",
        "above_at": "(one, other)",
    },
    "bounds": {
        "least_pieces": "(plan, *, start=None)", "greatest_pieces": "(plan, *, start=None)", "least_at": "(plan, amount)",
        "greatest_at": "(plan, amount)",
    },
    "boundpapers": {"bound_paper": "(plan, *, greatest=False)"},
    "boundchecker": {"lets_bound": "(plan, thing, *, greatest=False)"},
    "sureness": {"sure_amounts": "(plan)", "is_sure_at": "(plan, amount)"},
    "gaps": {"pieces_with_orders": "(plan, *, greatest=False)", "largest_gap": "(plan)"},
    "gappapers": {"gap_paper": "(plan)"},
    "gapchecker": {"lets_gap": "(plan, thing)"},
    "arrivals": {"arrivals_at": "(plan, start)", "views_after": "(plan, start)"},
    "exchanges": {"noticed": "(plan, start, one, other)", "exchanges_noticed": "(plan)"},
    "surepapers": {"sure_paper": "(plan)"},
    "surechecker": {"lets_sure": "(plan, thing)"},
    "outcomes": {"outcomes_of": "(plan, amount)", "questions_of": "(plan)"},
    "settling": {
        "narrowed": "(plan, *answers)", "settled_by": "(plan, amount, *answers)", "settling_sets": "(plan, amount)",
    },
}

GENERATORS = ("orders_of", "pieces_with_orders")

CLASSES = {
    "errors": (
        "StackError", "PaperError", "PlanError", "TextError", "InvalidPaper", "InvalidStep", "UnknownName", "NothingToUndo",
        "InvalidAmount", "InvalidText", "InvalidCommand",
    ),
    "clauseclasses": (
        "Clause", "Scaled", "Shifted", "Bounded", "Fixed", "Percent", "Floor", "Cap", "Claim", "Fee", "Voucher", "General",
    ),
}


def defined_in(name):
    tree = ast.parse((PACKAGE / f"{name}.py").read_text())
    return {row.name: row for row in tree.body if isinstance(row, (ast.FunctionDef, ast.ClassDef))}


class Interface(unittest.TestCase):
    def test_functions_and_parameters(self):
        for file, functions in FUNCTIONS.items():
            module = importlib.import_module(f"stackorder.{file}")
            for name, parameters in functions.items():
                self.assertIsInstance(defined_in(file).get(name), ast.FunctionDef, name)
                self.assertEqual(str(inspect.signature(getattr(module, name))), parameters, name)

    def test_classes(self):
        for file, names in CLASSES.items():
            for name in names:
                self.assertIsInstance(defined_in(file).get(name), ast.ClassDef, name)

    def test_generators(self):
        for file, functions in FUNCTIONS.items():
            module = importlib.import_module(f"stackorder.{file}")
            for name in functions:
                self.assertIs(inspect.isgeneratorfunction(getattr(module, name)), name in GENERATORS, name)

    def test_arguments_are_not_changed(self):
        rules, pairs = PLAN
        values = [[], [1, [2]], [(1, 2)], ([1], [2]), [rules, pairs], ([*rules], []), [["a"], "b"], (["a", "b"],), [[None]]]
        before = copy.deepcopy(values)
        for thing in values:
            for kind in (is_integer, is_number, is_name, is_fraction, is_clause, has_plan_shape, are_pieces):
                self.assertIs(kind(thing), False)
            self.assertIs(is_legal(PLAN, thing), False)
            for check in (lets_bound, lets_gap, lets_sure):
                with self.assertRaises(InvalidPaper):
                    check(PLAN, thing)
        self.assertEqual(values, before)

    def test_papers_with_lists_in_them_are_not_changed(self):
        for check, paper in ((lets_bound, bound_paper(PLAN)), (lets_gap, gap_paper(PLAN)), (lets_sure, sure_paper(PLAN))):
            for k in range(len(paper)):
                thing = [*paper[:k], [paper[k]], *paper[k + 1:]]
                before = copy.deepcopy(thing)
                with self.assertRaises(InvalidPaper):
                    check(PLAN, thing)
                with self.assertRaises(InvalidPaper):
                    check(PLAN, tuple(thing))
                self.assertEqual(thing, before)
