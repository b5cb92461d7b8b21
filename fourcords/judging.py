"""Whether a form is nonnegative: shown by a sum of squares, or refuted by a point."""

from fourcords.elimination import kernel, primitive
from fourcords.errors import BelowZero
from fourcords.forms import Form, product_of
from fourcords.ratios import common_divisor, fraction


class Judgement:
    """The answer of judge: the squares of a nonnegative form, or a point with a value below 0."""

    def __init__(self, holds, squares, point):
        self.holds = holds
        self.squares = squares
        self.point = point


def is_squares(form, squares):
    """Return True if the squares show the form."""
    total = Form.zero(form.size)
    for top, bottom, row in squares:
        if top < 1 or bottom < 1 or len(row) != form.size:
            return False
        total = total + Form.square(row).scaled((top, bottom))
    return total == form


def judge(form):
    """Decide whether the form is nonnegative, by taking off one square after the other."""
    rest = form.entries
    scale = 1
    squares = []
    for index in range(form.size):
        dip = dip_of(rest)
        if dip is not None:
            return Judgement(False, (), settled([0] * index + dip, squares))
        if rest[0][0] > 0:
            squares.append(first_square(rest[0], index, scale * form.bottom))
        rest, scale = without_first(rest, scale)
    return Judgement(True, tuple(squares), None)


def dip_of(rest):
    """Return numbers at which a matrix is below 0 for a reason that its first row shows, or None."""
    first = rest[0]
    if first[0] < 0:
        return [1] + [0] * (len(first) - 1)
    if first[0] > 0:
        return None
    for index in range(1, len(first)):
        if first[index] != 0:
            return steep_numbers(first[index], rest[index][index], index, len(first))
    return None


def steep_numbers(slope, diagonal, index, size):
    """Return numbers, 1 at the index, at which 2 * slope * x[0] + diagonal is below 0."""
    numbers = [0] * size
    numbers[0] = -(abs(diagonal) + 1) if slope > 0 else abs(diagonal) + 1
    numbers[index] = 1
    return numbers


def first_square(first, index, bottom):
    """Return the square that clears the first row of what is left of a form."""
    divisor = common_divisor(first)
    top, lowest_bottom = fraction(divisor * divisor, first[0] * bottom)
    row = [0] * index + [number // divisor for number in first]
    return top, lowest_bottom, tuple(row)


def without_first(rest, scale):
    """Return what is left behind the first row and column, and the number to divide it by."""
    first = rest[0]
    pivot = first[0]
    if pivot == 0:
        return [row[1:] for row in rest[1:]], scale
    # The division is exact, as all numbers are minors of the entries; so they stay small.
    left = [[(pivot * x - row[0] * y) // scale for x, y in zip(row[1:], first[1:])] for row in rest[1:]]
    return left, pivot


def settled(numbers, squares):
    """Return a point at which the squares are 0, and the rest of the form is what it is at the numbers."""
    point = list(numbers)
    for _, _, row in reversed(squares):
        lead = lead_of(row)
        total = product_of(row, point)
        point = [number * row[lead] for number in point]
        point[lead] = -total
        point = list(primitive(point))
    return tuple(point)


def lead_of(row):
    """Return the index of the first number that is not 0."""
    index = 0
    while row[index] == 0:
        index += 1
    return index


def checked_squares(form):
    """Return the echelon squares of the form, or raise BelowZero if it is not nonnegative."""
    judgement = judge(form)
    if not judgement.holds:
        raise BelowZero(judgement.point)
    return judgement.squares


def leads(form):
    """Return the leads of the echelon squares of a nonnegative form."""
    return tuple([lead_of(row) for _, _, row in checked_squares(form)])


def rank(form):
    """Return the number of the echelon squares of a nonnegative form."""
    return len(checked_squares(form))


def free_points(form):
    """Return one free point of a nonnegative form for each index that is not a lead."""
    checked_squares(form)
    return tuple(kernel(form.entries, form.size))
