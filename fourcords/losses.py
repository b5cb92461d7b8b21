"""Losses of flows in webs, and the least loss with which a demand can be met."""

from fourcords.currents import heights
from fourcords.ratios import added, fraction
from fourcords.vectors import bound_at, vector_product


def flow_loss(web, flow):
    """Return the sum of the squares of the numbers of the flow divided by the strengths, a fraction."""
    numbers, bottom = flow
    total = 0, 1
    for number, (_, _, strength) in zip(numbers, web.ties):
        total = added(total, (number * number * web.bottom, strength))
    return fraction(total[0], total[1] * bottom * bottom)


def height_bound(web, demand, levels):
    """Return the bound that any heights give for the loss of a demand from below, a fraction."""
    return bound_at(web.form, demand, levels)


def least_loss(web, demand):
    """Return the least loss of all flows that meet the demand, a fraction."""
    return vector_product(demand, heights(web, demand))
