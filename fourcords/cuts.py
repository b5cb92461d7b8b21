"""Cuts of webs: the ties between the places of a side and all others."""

from fourcords.errors import SamePlace, SizesDiffer
from fourcords.ratios import compared, divided, fraction


def cut(web, side):
    """Return the sum of the strengths of the ties with exactly one end in the side, a fraction."""
    return fraction(sum([strength for one, two, strength in web.ties if (one in side) != (two in side)]), web.bottom)


def selections(count):
    """Return all ascending tuples of numbers below count, shorter ones first, then in ascending order."""
    level = [()]
    found = [()]
    for _ in range(count):
        level = [(*chosen, number) for chosen in level
                 for number in range(chosen[-1] + 1 if chosen else 0, count)]
        found.extend(level)
    return found


def sides(places):
    """Yield the sides that contain place 0 but not all places, those with fewer places first."""
    for chosen in selections(places - 1):
        if len(chosen) < places - 1:
            yield (0, *[number + 1 for number in chosen])


def narrow_sides(web, limit):
    """Return the sides whose cut is at most the limit, a fraction."""
    return tuple([side for side in sides(web.places) if compared(cut(web, side), limit) < 1])


def least_cut(web, one, two):
    """Return the least cut of all sides with the first and without the second place, and its smallest side."""
    if one == two:
        raise SamePlace(one)
    others = [place for place in range(web.places) if place not in (one, two)]
    chosen_sides = [tuple(sorted([one, *[others[number] for number in chosen]])) for chosen in selections(len(others))]
    return first_most([(cut(web, side), side) for side in chosen_sides], -1)


def first_most(measured, order):
    """Return the first of some pairs of a fraction and a side with the least (order -1) or greatest (1) fraction."""
    best = measured[0]
    for pair in measured:
        if compared(pair[0], best[0]) == order:
            best = pair
    return best


def cut_range(one, two):
    """Return the least and the greatest ratio of a cut in the second to that in the first web, with sides."""
    if one.places != two.places:
        raise SizesDiffer(one.places, two.places)
    cut_sides = [side for side in sides(one.places) if cut(one, side) != (0, 1)]
    if not cut_sides:
        return None
    measured = [(divided(cut(two, side), cut(one, side)), side) for side in cut_sides]
    return first_most(measured, -1), first_most(measured, 1)
