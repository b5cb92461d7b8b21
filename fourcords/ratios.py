"""Exact fractions and vectors, as pairs with a bottom of at least 1."""

from math import gcd

from fourcords.errors import ZeroBottom


def common_divisor(numbers):
    """Return the greatest whole number that divides all the numbers, 0 if all of them are 0."""
    divisor = 0
    for number in numbers:
        divisor = gcd(divisor, number)
    return divisor


def vector(numbers, bottom):
    """Return the vector in lowest terms for numbers[i] / bottom; the bottom may be negative."""
    if bottom == 0:
        raise ZeroBottom()
    divisor = common_divisor([bottom, *numbers])
    if bottom < 0:
        divisor = -divisor
    return tuple([number // divisor for number in numbers]), bottom // divisor


def fraction(top, bottom):
    """Return the fraction in lowest terms for top / bottom; the bottom may be negative."""
    tops, lowest_bottom = vector((top,), bottom)
    return tops[0], lowest_bottom


def joined(one, two):
    """Return by what tops over two bottoms must be multiplied to stand over a common one, and this bottom."""
    # Long bottoms often have most of their divisors in common, and less is left to divide by later.
    shared = gcd(one, two)
    return two // shared, one // shared, one * (two // shared)


def added(one, two):
    """Return the sum of two fractions."""
    left, right, bottom = joined(one[1], two[1])
    return fraction(one[0] * left + two[0] * right, bottom)


def multiplied(one, two):
    """Return the product of two fractions."""
    return fraction(one[0] * two[0], one[1] * two[1])


def subtracted(one, two):
    """Return the difference of two fractions."""
    return added(one, (-two[0], two[1]))


def divided(one, two):
    """Return the quotient of two fractions, the second one not 0."""
    return fraction(one[0] * two[1], one[1] * two[0])


def compared(one, two):
    """Return -1, 0 or 1 if the first fraction is less than, equal to or greater than the second."""
    difference = one[0] * two[1] - two[0] * one[1]
    if difference < 0:
        return -1
    return 1 if difference > 0 else 0


def floored(one):
    """Return the greatest whole number that is not above the fraction."""
    return one[0] // one[1]


def ceiling(one):
    """Return the least whole number that is not below the fraction."""
    return -(-one[0] // one[1])
