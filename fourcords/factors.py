"""The best factors within which a nonnegative form is of another one."""

from fourcords.forms import check_sizes
from fourcords.inverses import inverse, paired
from fourcords.judging import checked_squares, free_points, judge
from fourcords.ratios import ceiling, floored, fraction, multiplied


def check_nonnegative(one, two):
    """Raise SizesDiffer or BelowZero if two forms are not nonnegative forms of the same size."""
    check_sizes(one, two)
    checked_squares(one)
    checked_squares(two)


def ratio_at(one, two, bottom, point):
    """Return two(point) / one(point) in parts of the bottom, a fraction; one(point) is above 0."""
    top, top_bottom = two(point)
    under, under_bottom = one(point)
    return fraction(top * under_bottom * bottom, top_bottom * under)


def least_enough(one, two, p, bottom):
    """Return p if two(x) <= p / bottom * one(x) everywhere, else some greater number that is still needed."""
    judgement = judge(one.scaled((p, bottom)) - two)
    if judgement.holds:
        return p
    return ceiling(ratio_at(one, two, bottom, judgement.point))


def least_between(one, two, bottom, low, high):
    """Return the least whole number p, known to lie from low to high, with two(x) <= p / bottom * one(x)."""
    while low < high:
        # Trying low itself ends the search early, as the points that break it soon come near the best one.
        needed = least_enough(one, two, low, bottom)
        if needed == low:
            return low
        middle = (needed + high) // 2
        risen = least_enough(one, two, middle, bottom)
        if risen == middle:
            low = needed
            high = middle
        else:
            low = risen
    return low


def least_high(one, two, *, bottom):
    """Return the least whole number p with two(x) <= p / bottom * one(x) everywhere, or None."""
    check_nonnegative(one, two)
    if any([two(point) != (0, 1) for point in free_points(one)]):
        return None
    # No factor that is taken at some point is above the sum of all of them, which is this sum of products.
    high = ceiling(multiplied((bottom, 1), paired(inverse(one), two)))
    return least_between(one, two, bottom, 0, high)


def greatest_low(one, two, *, bottom):
    """Return the greatest whole number p with p / bottom * one(x) <= two(x) everywhere, or None."""
    check_nonnegative(one, two)
    units = [[1 if at == index else 0 for at in range(one.size)] for index in range(one.size)]
    ratios = [ratio_at(one, two, bottom, unit) for unit in units if one(unit) != (0, 1)]
    if not ratios:
        return None
    high = min([floored(ratio) for ratio in ratios])
    # The signs turned, the greatest number below all ratios is the least one above them.
    return -least_between(one, two.scaled((-1, 1)), bottom, -high, 0)
