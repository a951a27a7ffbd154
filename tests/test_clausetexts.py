import unittest

from stackorder.clausereadings import clause_read, fraction_read
from stackorder.clausetexts import clause_text, fraction_text
from stackorder.clauses import chained
from tests.helpers import AMOUNTS, BIG, clause_samples


class ClauseTexts(unittest.TestCase):
    def test_fractions(self):
        for value, text in (((0, 1), "0"), ((5, 1), "5"), ((-5, 1), "-5"), ((1, 2), "1/2"), ((-7, 2), "-7/2"),
                            ((100, 3), "100/3"), ((BIG, 1), "9" * 60), ((-BIG, 10), "-" + "9" * 60 + "/10"),
                            ((1, BIG), "1/" + "9" * 60), ((10 ** 59, 1), "1" + "0" * 59)):
            self.assertEqual(fraction_text(value), text)

    def test_results_of_any_size(self):
        self.assertEqual(fraction_text((10 ** 60, 1)), "1" + "0" * 60)
        self.assertEqual(fraction_text((-(10 ** 120) - 7, 1)), "-1" + "0" * 119 + "7")
        self.assertEqual(fraction_text((-(10 ** 5000), 3)), "-1" + "0" * 5000 + "/3")
        self.assertEqual(fraction_text((10 ** 5000 + 3, 10 ** 5000)), "1" + "0" * 4999 + "3/1" + "0" * 5000)
        chain = chained(*[((10 ** 12, 1), (0, 1), None, None)] * 400)
        self.assertEqual(clause_text(chain), "1" + "0" * 4800 + ",0,-,-")

    def test_clauses(self):
        for clause, text in ((((1, 1), (0, 1), None, None), "1,0,-,-"), (((0, 1), (-5, 3), None, None), "0,-5/3,-,-"),
                             (((1, 2), (3, 1), (-1, 1), None), "1/2,3,-1,-"),
                             (((1, 2), (3, 1), (-1, 1), (0, 1)), "1/2,3,-1,0")):
            self.assertEqual(clause_text(clause), text)

    def test_read_again(self):
        for value in AMOUNTS + ((BIG, 1), (-BIG, 1), (1, BIG), (-BIG, 10 ** 59)):
            self.assertEqual(fraction_read(fraction_text(value)), value)
        for clause in clause_samples():
            self.assertEqual(clause_read(clause_text(clause)), clause)

    def test_by_name(self):
        self.assertEqual(fraction_text(fraction=(1, 2)), "1/2")
        self.assertEqual(clause_text(clause=((1, 1), (0, 1), None, None)), "1,0,-,-")

    def test_example(self):
        self.assertEqual(clause_text(((11, 10), (-7, 2), None, (50, 1))), "11/10,-7/2,-,50")
