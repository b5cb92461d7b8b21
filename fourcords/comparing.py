"""Whether a form is within factors of another one."""

from fourcords.forms import check_sizes
from fourcords.judging import is_squares, judge


class Within:
    """The answer of within: squares for both sides, or a point that breaks one side."""

    def __init__(self, holds, under, over, side, point):
        self.holds = holds
        self.under = under
        self.over = over
        self.side = side
        self.point = point


def within(one, two, low, high):
    """Decide whether low * one(x) <= two(x) <= high * one(x) at every point x."""
    check_sizes(one, two)
    under = judge(two - one.scaled(low))
    if not under.holds:
        return Within(False, (), (), "under", under.point)
    over = judge(one.scaled(high) - two)
    if not over.holds:
        return Within(False, (), (), "over", over.point)
    return Within(True, under.squares, over.squares, None, None)


def is_within(one, two, low, high, under, over):
    """Return True if the squares show that the second form is within the factors of the first one."""
    check_sizes(one, two)
    return is_squares(two - one.scaled(low), under) and is_squares(one.scaled(high) - two, over)
