"""Inverses of nonnegative forms, solutions, products and determinants."""

from fourcords.elimination import reduced
from fourcords.errors import NoInverse, NoSolution
from fourcords.forms import Form, check_sizes, product_of
from fourcords.judging import free_points, leads
from fourcords.ratios import added, fraction, multiplied, vector


def inverse(form):
    """Return the inverse of a nonnegative form in its leads, with 0 elsewhere."""
    places = leads(form)
    count = len(places)
    block = [[form.entries[row][column] for column in places] + [1 if row == column else 0 for column in places]
             for row in places]
    _, kept, scale = reduced(block, count)
    entries = [[0] * form.size for _ in range(form.size)]
    for row, numbers in zip(places, kept):
        for column, number in zip(places, numbers[count:]):
            entries[row][column] = number * form.bottom
    return Form(entries, bottom=scale)


def solve(form, demand):
    """Return the vector that gives the demand and is 0 at every index that is not a lead."""
    numbers, bottom = demand
    for point in free_points(form):
        if product_of(numbers, point) != 0:
            raise NoSolution(point)
    block = [[*row, number] for row, number in zip(form.entries, numbers)]
    pivots, kept, scale = reduced(block, form.size)
    solution = [0] * form.size
    for pivot, row in zip(pivots, kept):
        solution[pivot] = row[-1] * form.bottom
    return vector(solution, scale * bottom)


def paired(one, two):
    """Return the sum of the products of the numbers of two matrices at the same places, a fraction."""
    check_sizes(one, two)
    total = sum([product_of(left, right) for left, right in zip(one.entries, two.entries)])
    return fraction(total, one.bottom * two.bottom)


def matrix_product(one, two):
    """Return the product of a matrix and a symmetric matrix."""
    return [[product_of(row, column) for column in two] for row in one]


def sandwich(outer, inner):
    """Return the form whose matrix is the product of the matrices of outer, inner and outer."""
    check_sizes(outer, inner)
    entries = matrix_product(matrix_product(outer.entries, inner.entries), outer.entries)
    return Form(entries, bottom=outer.bottom * outer.bottom * inner.bottom)


def changed_inverse(form, row, amount):
    """Return what becomes of the inverse of a form to which amount times the square of the row is added."""
    top, bottom = added((1, 1), multiplied(amount, form(row)))
    if top == 0:
        raise NoInverse()
    numbers, own_bottom = form.applied((row, 1))
    factor = fraction(amount[0] * bottom, amount[1] * top * own_bottom * own_bottom)
    return form - Form.square(numbers).scaled(factor)


def determinant(form):
    """Return the determinant of the matrix of the form, a fraction."""
    pivots, _, scale = reduced(form.entries, form.size)
    if len(pivots) < form.size:
        return 0, 1
    bottom = 1
    for _ in range(form.size):
        bottom = bottom * form.bottom
    return fraction(scale, bottom)
