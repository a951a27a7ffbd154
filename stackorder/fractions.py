"""Exact fractions: pairs (numerator, denominator) in lowest terms, the denominator at least 1."""

from math import gcd, lcm


def fraction(numerator, denominator=1):
    if denominator < 0:
        return fraction(-numerator, -denominator)
    common = gcd(numerator, denominator)
    return (numerator // common, denominator // common)


def fraction_sum(*fractions):
    total = (0, 1)
    for numerator, denominator in fractions:
        total = fraction(total[0] * denominator + numerator * total[1], total[1] * denominator)
    return total


def fraction_product(*fractions):
    total = (1, 1)
    for numerator, denominator in fractions:
        total = fraction(total[0] * numerator, total[1] * denominator)
    return total


def difference(one, other):
    return fraction_sum(one, (-other[0], other[1]))


def quotient(one, other):
    return fraction(one[0] * other[1], one[1] * other[0])


def compared(one, other):
    # Denominators are positive, so the products stand in the same order as the fractions.
    left = one[0] * other[1]
    right = other[0] * one[1]
    if left == right:
        return 0
    return -1 if left < right else 1


def ascending(fractions):
    """The list of the distinct ones of the fractions, ascending by value."""
    common = 1
    for _, denominator in fractions:
        common = lcm(common, denominator)
    # Over one common denominator, the numerators alone give the order.
    rows = sorted({(part[0] * (common // part[1]), part) for part in fractions})
    return [part for _, part in rows]
