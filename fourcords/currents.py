"""Heights and flows in webs."""

from fourcords.inverses import solve
from fourcords.ratios import vector


def heights(web, demand):
    """Return the vector of heights that give the demand, 0 at the greatest place of every part."""
    return solve(web.form, demand)


def tie_currents(web, levels):
    """Return the flow that runs if the places have these heights, a vector with one number for each tie."""
    numbers, bottom = levels
    currents = [strength * (numbers[one] - numbers[two]) for one, two, strength in web.ties]
    return vector(currents, bottom * web.bottom)


def outflow(web, flow):
    """Return what a flow takes away from each place, a vector."""
    numbers, bottom = flow
    totals = [0] * web.places
    for (one, two, _), number in zip(web.ties, numbers):
        totals[one] += number
        totals[two] -= number
    return vector(totals, bottom)
