import unittest
from fractions import Fraction
from itertools import product

from stackorder.fractions import ascending, compared, fraction, fraction_product, fraction_sum
from stackorder.kinds import is_fraction
from tests.helpers import AMOUNTS, BIG, exact, pair_of

LARGE = ((BIG, 1), (-BIG, 1), (1, BIG), (-1, BIG), (BIG, 10 ** 59), (10 ** 59, BIG))


class Fractions(unittest.TestCase):
    def test_fraction(self):
        for numerator in (-BIG, -12, -6, -1, 0, 1, 4, 6, 35, BIG):
            for denominator in (-BIG, -10, -4, -1, 1, 2, 6, 9, BIG):
                value = fraction(numerator, denominator)
                self.assertEqual(value, pair_of(Fraction(numerator, denominator)))
                self.assertIs(is_fraction(value), True)
                self.assertIs(type(value), tuple)

    def test_denominator_left_out(self):
        for numerator in (-5, 0, 1, BIG):
            self.assertEqual(fraction(numerator), (numerator, 1))

    def test_zero(self):
        self.assertEqual([fraction(0), fraction(0, 7), fraction(0, -7)], [(0, 1)] * 3)

    def test_sums_and_products(self):
        for one, other in product(AMOUNTS + LARGE, repeat=2):
            self.assertEqual(fraction_sum(one, other), pair_of(exact(one) + exact(other)))
            self.assertEqual(fraction_product(one, other), pair_of(exact(one) * exact(other)))

    def test_none_one_and_several(self):
        self.assertEqual([fraction_sum(), fraction_product()], [(0, 1), (1, 1)])
        for value in AMOUNTS + LARGE:
            self.assertEqual([fraction_sum(value), fraction_product(value)], [value, value])
        self.assertEqual(fraction_sum(*AMOUNTS), pair_of(sum(exact(value) for value in AMOUNTS)))
        self.assertEqual(fraction_sum((1, 6), (1, 3), (1, 2)), (1, 1))
        self.assertEqual(fraction_product((2, 3), (3, 4), (-2, 1), (1, 1)), (-1, 1))
        self.assertEqual(fraction_product((2, 3), (0, 1), (BIG, 1)), (0, 1))
        self.assertEqual(fraction_sum((1, 2), (-1, 2)), (0, 1))

    def test_many_and_larger_than_the_limits(self):
        self.assertEqual(fraction_sum(*[(1, 7)] * 700), (100, 1))
        self.assertEqual(fraction_product(*[(BIG, 1)] * 90), (BIG ** 90, 1))

    def test_compared(self):
        for one, other in product(AMOUNTS + LARGE, repeat=2):
            sign = (exact(one) > exact(other)) - (exact(one) < exact(other))
            self.assertEqual(compared(one, other), sign)
            self.assertIs(type(compared(one, other)), int)

    def test_compared_with_minus_one_zero_and_one(self):
        for value, signs in (((-BIG, 1), [-1, -1, -1]), ((-1, 1), [0, -1, -1]), ((-1, 2), [1, -1, -1]),
                             ((0, 1), [1, 0, -1]), ((1, BIG), [1, 1, -1]), ((1, 1), [1, 1, 0]), ((3, 2), [1, 1, 1])):
            self.assertEqual([compared(value, other) for other in ((-1, 1), (0, 1), (1, 1))], signs)

    def test_ascending_is_by_value(self):
        values = [(5, 1), (1, 2), (-1, 3), (1, 2), (-1, 2), (10, 3), (0, 1), (5, 1)]
        self.assertEqual(ascending(values), [(-1, 2), (-1, 3), (0, 1), (1, 2), (10, 3), (5, 1)])
        self.assertEqual(ascending([]), [])
        self.assertEqual(values[0], (5, 1))

    def test_by_name(self):
        self.assertEqual(fraction(numerator=6, denominator=-4), (-3, 2))
        self.assertEqual(fraction(6, denominator=4), (3, 2))
        self.assertEqual(fraction(numerator=6), (6, 1))
        self.assertEqual(compared(one=(1, 2), other=(2, 3)), -1)
        self.assertEqual(compared(other=(1, 2), one=(2, 3)), 1)

    def test_example(self):
        self.assertEqual(
            [fraction(6, -4), fraction_sum((1, 2), (1, 3)), fraction_product(), compared((1, 2), (2, 3))],
            [(-3, 2), (5, 6), (1, 1), -1],
        )
