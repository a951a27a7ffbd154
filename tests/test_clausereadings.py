import re
import unittest
from itertools import product
from math import gcd

from stackorder.clausereadings import clause_read, fraction_read
from stackorder.clausetexts import clause_text, fraction_text
from stackorder.errors import InvalidText
from stackorder.kinds import is_clause, is_fraction
from tests.helpers import BIG

NINES = "9" * 60
NO_FRACTIONS = (
    "", "-", "--1", "+1", "-0", "00", "01", "-01", "1/1", "5/1", "0/1", "0/5", "-0/5", "2/4", "6/3", "1/0", "0/0", "1/-2",
    "-1/-2", "1/02", "01/2", "1/", "/2", "/", "1//2", "1/2/3", " 1", "1 ", "1 /2", "1/ 2", "1.5", "1e3", "1_0", "a", "x/2",
    "1/a", "1" + "0" * 60, "-1" + "0" * 60, "1/1" + "0" * 60, NINES + "9", "9" * 4000, "1/" + "9" * 3998, "None", "True",
)


class Readings(unittest.TestCase):
    def assertInvalid(self, at, field, read, *args, **named):
        with self.assertRaises(InvalidText) as raised:
            read(*args, **named)
        self.assertEqual((raised.exception.line, raised.exception.field), (at, field), (args, named))

    def test_fractions(self):
        for text, value in (("0", (0, 1)), ("1", (1, 1)), ("-1", (-1, 1)), ("1/2", (1, 2)), ("-7/2", (-7, 2)),
                            ("10/3", (10, 3)), (NINES, (BIG, 1)), ("-" + NINES, (-BIG, 1)), ("1/" + NINES, (1, BIG)),
                            ("-1" + "0" * 59 + "/" + NINES, (-(10 ** 59), BIG))):
            self.assertEqual(fraction_read(text), value)
            self.assertIs(is_fraction(fraction_read(text)), True)
            self.assertEqual(fraction_text(fraction_read(text)), text)

    def test_no_fractions(self):
        for text in NO_FRACTIONS:
            self.assertInvalid(0, 0, fraction_read, text)

    def test_every_short_string(self):
        for size in range(6):
            for characters in product("-/0124", repeat=size):
                text = "".join(characters)
                match = re.fullmatch("(0|-?[1-9][0-9]*)(/(?!1$)([1-9][0-9]*))?", text)
                if match and gcd(int(match[1]), int(match[3] or 1)) == 1:
                    self.assertEqual(fraction_read(text), (int(match[1]), int(match[3] or 1)))
                else:
                    self.assertInvalid(0, 0, fraction_read, text)

    def test_clauses(self):
        for text, clause in (("1,0,-,-", ((1, 1), (0, 1), None, None)), ("0,-5,-,-", ((0, 1), (-5, 1), None, None)),
                             ("1/2,3,-1,-", ((1, 2), (3, 1), (-1, 1), None)), ("2,0,-,5", ((2, 1), (0, 1), None, (5, 1))),
                             ("2,0,1/3,1/2", ((2, 1), (0, 1), (1, 3), (1, 2))),
                             (",".join([NINES, "-" + NINES, "-" + NINES, NINES]), ((BIG, 1), (-BIG, 1), (-BIG, 1), (BIG, 1)))):
            self.assertEqual(clause_read(text), clause)
            self.assertIs(is_clause(clause_read(text)), True)
            self.assertEqual(clause_text(clause_read(text)), text)

    def test_parts_that_are_no_fractions(self):
        for text in NO_FRACTIONS:
            self.assertInvalid(0, 0, clause_read, f"{text},0,-,-")
            self.assertInvalid(0, 1, clause_read, f"1,{text},-,-")
            if text != "-":
                self.assertInvalid(0, 2, clause_read, f"1,0,{text},-")
                self.assertInvalid(0, 3, clause_read, f"1,0,-,{text}")

    def test_factors_below_zero(self):
        for factor in ("-1", "-1/2", "-" + NINES):
            self.assertInvalid(0, 0, clause_read, f"{factor},0,-,-")

    def test_constants_have_no_bounds(self):
        self.assertInvalid(0, 2, clause_read, "0,5,1,-")
        self.assertInvalid(0, 2, clause_read, "0,5,1,9")
        self.assertInvalid(0, 3, clause_read, "0,5,-,9")

    def test_high_is_greater_than_low(self):
        for low, high in (("5", "5"), ("5", "3"), ("1/2", "1/3"), ("0", "-1"), ("-1", "-2"), ("10", "9")):
            self.assertInvalid(0, 3, clause_read, f"1,0,{low},{high}")

    def test_missing_parts(self):
        self.assertInvalid(0, 0, clause_read, "")
        self.assertInvalid(0, 1, clause_read, "1")
        self.assertInvalid(0, 2, clause_read, "1,0")
        self.assertInvalid(0, 3, clause_read, "1,0,-")
        self.assertInvalid(0, 3, clause_read, "0,0,-")

    def test_a_comma_leaves_an_empty_part(self):
        for text, field in ((",", 0), ("1,", 1), ("1,0,", 2), ("1,0,-,", 3), ("1,0,-,-,", 4), (",1,0,-,-", 0), ("1,,0,-,-", 1)):
            self.assertInvalid(0, field, clause_read, text)

    def test_a_fifth_part(self):
        for rest in ("-", "1", "x", "1,2,3", ",,"):
            self.assertInvalid(0, 4, clause_read, f"1,0,-,-,{rest}")

    def test_the_first_invalid_part_counts(self):
        self.assertInvalid(0, 0, clause_read, "x,y,z,w,v")
        self.assertInvalid(0, 1, clause_read, "1,y,z,w,v")
        self.assertInvalid(0, 2, clause_read, "0,1,5,5,5")
        self.assertInvalid(0, 3, clause_read, "1,1,5,5,5")
        self.assertInvalid(0, 0, clause_read, "x")
        self.assertInvalid(0, 1, clause_read, "1,x")
        self.assertInvalid(0, 2, clause_read, "0,1,1")

    def test_blanks(self):
        for text, field in ((" 1,0,-,-", 0), ("1, 0,-,-", 1), ("1,0, -,-", 2), ("1,0,-,- ", 3), ("1 0 - -", 0)):
            self.assertInvalid(0, field, clause_read, text)

    def test_the_line_is_passed_on(self):
        for line in (0, 1, 2, 17, BIG):
            self.assertInvalid(line, 3, clause_read, "1,0,5,3", line=line)
            self.assertInvalid(line, 2, clause_read, "1,0", line=line)
            self.assertEqual(clause_read("1,0,-,-", line=line), ((1, 1), (0, 1), None, None))

    def test_by_name(self):
        self.assertEqual(fraction_read(text="1/2"), (1, 2))
        self.assertEqual(clause_read(text="1,0,-,-", line=5), ((1, 1), (0, 1), None, None))
        with self.assertRaises(TypeError):
            clause_read("1,0,-,-", 5)

    def test_example(self):
        self.assertInvalid(2, 3, clause_read, "1,0,5,3", line=2)
