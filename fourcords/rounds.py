"""Solving by rounds that need only solutions for a form nearby."""

from fourcords.comparing import within
from fourcords.errors import NotWithin
from fourcords.inverses import inverse, solve
from fourcords.judging import checked_squares
from fourcords.ratios import added, compared, divided, fraction, multiplied, subtracted, vector
from fourcords.vectors import bound_at, vector_product, vector_sum


class Stop:
    """Where the rounds are: the heights, what is left of the demand, and between what the loss lies."""

    def __init__(self, heights, residual, low, high):
        self.heights = heights
        self.residual = residual
        self.low = low
        self.high = high


def check_question(form, helper, factor, demand):
    """Raise the error that is due if the rounds cannot be made."""
    checked_squares(form)
    # This looks at the sizes first of all.
    answer = within(form, helper, (1, 1), factor)
    if not answer.holds:
        raise NotWithin(answer.side, answer.point)
    solve(form, demand)


def first_heights(form, start):
    """Return the heights of the first stop, a vector."""
    if start is None:
        return (0,) * form.size, 1
    return vector(start[0], start[1])


def stop_at(heights, residual, bound, gain, factor):
    """Return the stop where the loss is at least the bound plus the gain."""
    return Stop(heights, residual, added(bound, gain), added(bound, multiplied(factor, gain)))


def rounds(form, helper, factor, demand, *, count, start=None):
    """Yield the stop at the start and the one behind each round."""
    own_factor = fraction(factor[0], factor[1])
    own_demand = vector(demand[0], demand[1])
    heights = first_heights(form, start)
    check_question(form, helper, own_factor, own_demand)
    step = divided(multiplied((2, 1), own_factor), added(own_factor, (1, 1)))
    # Applied to what has a solution, the inverse gives just this solution.
    turned = inverse(helper)
    for _ in range(count + 1):
        residual = vector_sum(own_demand, form.applied(heights), (-1, 1))
        pull = turned.applied(residual)
        bound = bound_at(form, own_demand, heights)
        yield stop_at(heights, residual, bound, vector_product(residual, pull), own_factor)
        heights = vector_sum(heights, pull, step)


def rounds_needed(factor, share):
    """Return the least number of rounds that take every error down to at most this share of it."""
    ratio = divided(subtracted(factor, (1, 1)), added(factor, (1, 1)))
    left = 1, 1
    count = 0
    while compared(left, share) > 0:
        left = multiplied(left, multiplied(ratio, ratio))
        count += 1
    return count
