"""Stands: how often each row of a list was taken, between two fences."""

from fourcords.errors import OutsideFence
from fourcords.inverses import inverse, paired
from fourcords.judging import free_points, judge, rank
from fourcords.ratios import added, ceiling, divided, floored, fraction, multiplied, subtracted
from fourcords.rowlists import form_of_pairs


def form_of_counts(rows, counts, unit):
    """Return the form of the counted rows; unit times the number of pairs is worth one full weight."""
    pairs = [(row, count * weight) for (row, weight), count in zip(rows.pairs, counts)]
    return form_of_pairs(rows.size, pairs, unit * max(len(pairs), 1) * rows.bottom)


def dip_point(rows, gap):
    """Return a point that is not free for the list at which the form is 0 or below, or None."""
    judgement = judge(gap)
    if not judgement.holds:
        # What is free for the list is free for this form, too, so the point is not.
        return judgement.point
    if len(judgement.squares) == rank(rows.form):
        return None
    found = [point for point in free_points(gap) if rows.form(point) != (0, 1)]
    return found[0]


def check_gap(rows, gap, side):
    """Raise OutsideFence if the form is not above 0 at every point that is not free for the list."""
    point = dip_point(rows, gap)
    if point is not None:
        raise OutsideFence(side, point)


def gap_above(stand, fence):
    """Return the form by which a stand is above this low fence."""
    return stand.form - stand.rows.form.scaled(fence)


def gap_below(stand, fence):
    """Return the form by which a stand is below this high fence."""
    return stand.rows.form.scaled(fence) - stand.form


class MovedFences:
    """The fences of a stand moved by two steps: the inverses there, and what the measures gain."""

    def __init__(self, stand, low_step, high_step):
        rows = stand.rows
        low_gap = gap_above(stand, added(stand.low, low_step))
        check_gap(rows, low_gap, "low")
        high_gap = gap_below(stand, added(stand.high, high_step))
        self.rows = rows
        self.full = stand.unit * len(rows)
        self.low_inverse = inverse(low_gap)
        self.high_inverse = inverse(high_gap)
        self.low_rise = subtracted(paired(rows.form, self.low_inverse), stand.low_measure)
        self.high_fall = subtracted(stand.high_measure, paired(rows.form, self.high_inverse))

    def numbers_at(self, index):
        """Return the upper and the lower number of a pair."""
        row, weight = self.rows.pairs[index]
        if all([number == 0 for number in row]):
            return (0, 1), (0, 1)
        upper = added(divided(self.change_at(self.high_inverse, row), self.high_fall), self.high_inverse(row))
        lower = subtracted(divided(self.change_at(self.low_inverse, row), self.low_rise), self.low_inverse(row))
        share = weight, self.rows.bottom
        return multiplied(share, upper), multiplied(share, lower)

    def change_at(self, turned, row):
        """Return the value of sandwich(turned, form of the list) at the row."""
        return self.rows.form.at(turned.applied((row, 1)))

    def room_at(self, index):
        """Return the least and the greatest count that is let for a pair, or None."""
        upper, lower = self.numbers_at(index)
        # A pair with room has a lower number above 0, and so an upper one above 0, too.
        if lower[0] <= 0:
            return None
        least = ceiling(divided((self.full, 1), lower))
        greatest = floored(divided((self.full, 1), upper))
        return (least, greatest) if least <= greatest else None

    def lets_at(self, index, count):
        """Return True if the count is let for a pair."""
        room = self.room_at(index)
        return room is not None and room[0] <= count <= room[1]


class Stand:
    """How often each row of a list was taken so far, strictly inside a low and a high fence."""

    def __init__(self, rows, counts, low, high, *, unit=10):
        self.rows = rows
        self.counts = tuple(counts)
        self.low = fraction(low[0], low[1])
        self.high = fraction(high[0], high[1])
        self.unit = unit
        self.form = form_of_counts(rows, counts, unit)
        low_gap = gap_above(self, low)
        high_gap = gap_below(self, high)
        check_gap(rows, low_gap, "low")
        check_gap(rows, high_gap, "high")
        self.low_measure = paired(rows.form, inverse(low_gap))
        self.high_measure = paired(rows.form, inverse(high_gap))

    def numbers(self, low_step, high_step):
        """Return the upper and the lower number of each pair for fences moved by these steps."""
        fences = MovedFences(self, low_step, high_step)
        return tuple([fences.numbers_at(index) for index in range(len(self.rows))])

    def moved(self, low_step, high_step, index, count):
        """Return the stand with moved fences in which the count of the pair is greater by count."""
        counts = [*self.counts[:index], self.counts[index] + count, *self.counts[index + 1:]]
        return Stand(self.rows, counts, added(self.low, low_step), added(self.high, high_step), unit=self.unit)

    def lets(self, low_step, high_step, index, count):
        """Return True if the count is let: then the moved stand has no greater measure than this one."""
        return MovedFences(self, low_step, high_step).lets_at(index, count)

    def room(self, low_step, high_step, index):
        """Return the least and the greatest count that is let for the pair, or None."""
        return MovedFences(self, low_step, high_step).room_at(index)
