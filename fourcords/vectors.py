"""Products and sums of vectors, and the bound that a vector gives for a loss."""

from fourcords.forms import product_of
from fourcords.ratios import fraction, joined, multiplied, subtracted, vector


def vector_product(one, two):
    """Return the product of two vectors, a fraction."""
    numbers, bottom = one
    others, other_bottom = two
    return fraction(product_of(numbers, others), bottom * other_bottom)


def vector_sum(one, two, factor):
    """Return the first vector plus a fraction times the second one."""
    numbers, bottom = one
    others, other_bottom = two
    left, right, both = joined(bottom, other_bottom * factor[1])
    times = right * factor[0]
    return vector([x * left + y * times for x, y in zip(numbers, others)], both)


def bound_at(form, demand, levels):
    """Return twice the product of demand and levels, less the value of the form there; no loss is below it."""
    return subtracted(multiplied((2, 1), vector_product(demand, levels)), form.at(levels))
