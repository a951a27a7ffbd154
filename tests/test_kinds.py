import unittest

from stackorder.kinds import is_clause, is_fraction, is_integer, is_name, is_number
from tests.helpers import BIG, ODD_VALUES, clause_samples, nested

KIND_FUNCTIONS = (is_integer, is_number, is_name, is_fraction, is_clause)


class Kinds(unittest.TestCase):
    def test_integers(self):
        for value in (0, 1, -1, 7, BIG, -BIG, 10 ** 59, 10 ** 200):
            self.assertIs(is_integer(value), True)
        for value in (True, False, None, "", "1", (), (1,), [1], nested(30)):
            self.assertIs(is_integer(value), False)

    def test_numbers(self):
        for value in (0, 1, 7, BIG):
            self.assertIs(is_number(value), True)
        for value in (-1, -BIG, True, False, None, "0", (0,), [0]):
            self.assertIs(is_number(value), False)

    def test_names(self):
        for value in ("a", "z", "ab", "abcdefgh", "zzzzzzzz", "add"):
            self.assertIs(is_name(value), True)
        for value in ("", "abcdefghi", "A", "aB", "a1", "1", "a b", " a", "a ", "a\n", "a-b", "a_b", "`", "{", "~",
                      None, True, 0, ("a",), ["a"], nested(30)):
            self.assertIs(is_name(value), False)

    def test_names_of_zero_to_nine_letters(self):
        self.assertEqual([is_name("x" * k) for k in range(10)], [False] + [True] * 8 + [False])

    def test_fractions(self):
        for value in ((0, 1), (1, 1), (-1, 1), (1, 2), (-3, 2), (BIG, 1), (1, BIG), (-BIG, 10 ** 59), (5, 1)):
            self.assertIs(is_fraction(value), True)

    def test_fractions_in_lowest_terms_only(self):
        for value in ((2, 4), (0, 2), (-2, 2), (10, 5), (6, 9), (-6, 9), (0, BIG), (BIG, BIG)):
            self.assertIs(is_fraction(value), False)

    def test_denominators_are_at_least_one(self):
        for value in ((1, 0), (0, 0), (1, -1), (0, -1), (-1, -2), (3, -BIG)):
            self.assertIs(is_fraction(value), False)

    def test_fractions_are_pairs_of_integers(self):
        for value in ((), (1,), (1, 1, 1), [1, 1], [0, 1], (True, 1), (1, True), (False, 1), (0, True), ("1", 1),
                      (1, "1"), (None, 1), (1, None), ((1, 1),), ((1, 1), 1), (1, (1, 1)), ([1], 1), 1, "1/2", None):
            self.assertIs(is_fraction(value), False)

    def test_clauses(self):
        for clause in clause_samples():
            self.assertIs(is_clause(clause), True)
        self.assertIs(is_clause(((1, BIG), (-BIG, 1), (-BIG, 2), (BIG, 1))), True)

    def test_clauses_outside_of_the_normal_form(self):
        for value in (((0, 1), (1, 1), (0, 1), None), ((0, 1), (1, 1), None, (2, 1)), ((0, 1), (1, 1), (0, 1), (2, 1)),
                      ((1, 1), (0, 1), (5, 1), (5, 1)), ((1, 1), (0, 1), (5, 1), (3, 1)),
                      ((1, 1), (0, 1), (1, 2), (1, 3)), ((-1, 1), (0, 1), None, None), ((-1, 2), (0, 1), (0, 1), None)):
            self.assertIs(is_clause(value), False)

    def test_clauses_need_four_parts_of_their_kinds(self):
        good = ((2, 1), (1, 1), (0, 1), (5, 1))
        self.assertIs(is_clause(good), True)
        self.assertIs(is_clause(list(good)), False)
        for k in range(4):
            self.assertIs(is_clause(good[:k]), False)
        self.assertIs(is_clause(good + (None,)), False)
        for k in range(4):
            for other in (list(good[k]), (2, 4), (1, 0), 1, True, "1", "-", (), (True, 1), ((1, 1),)):
                self.assertIs(is_clause(good[:k] + (other,) + good[k + 1:]), False, (k, other))
        self.assertIs(is_clause((None, (1, 1), None, None)), False)
        self.assertIs(is_clause(((1, 1), None, None, None)), False)

    def test_other_values(self):
        for value in ODD_VALUES:
            for function in (is_fraction, is_clause):
                self.assertIs(function(value), False)
        for value in (nested(30), [nested(29)], ("a",) * 5000, [1] * 5000, tuple(ODD_VALUES), list(ODD_VALUES)):
            for function in KIND_FUNCTIONS:
                self.assertIs(function(value), False)

    def test_by_name(self):
        self.assertEqual([function(thing=5) for function in KIND_FUNCTIONS], [True, True, False, False, False])
        self.assertIs(is_name(thing="a"), True)
        self.assertIs(is_fraction(thing=(1, 2)), True)
        self.assertIs(is_clause(thing=((1, 1), (0, 1), None, None)), True)

    def test_example(self):
        self.assertIs(is_fraction((2, 4)), False)
