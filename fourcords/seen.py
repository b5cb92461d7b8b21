"""What a nonnegative form looks like from some of its unknowns if all others settle."""

from fourcords.forms import Form, product_of
from fourcords.inverses import inverse, matrix_product, solve
from fourcords.judging import checked_squares
from fourcords.ratios import vector


def others_of(form, keep):
    """Return the indexes of the unknowns that settle, in ascending order."""
    return [index for index in range(form.size) if index not in keep]


def block_of(form, rows, columns):
    """Return the entries of the form in these rows and columns."""
    return [[form.entries[row][column] for column in columns] for row in rows]


def seen_from(form, keep):
    """Return the form of the kept unknowns: the least value that is left if the others settle."""
    checked_squares(form)
    others = others_of(form, keep)
    across = block_of(form, keep, others)
    turned = inverse(Form(block_of(form, others, others)))
    gain = Form(matrix_product(matrix_product(across, turned.entries), across), bottom=turned.bottom)
    return (Form(block_of(form, keep, keep)) - gain).scaled((1, form.bottom))


def filled(form, keep, values):
    """Return the vector with the values at the kept indexes at which the least value is taken."""
    checked_squares(form)
    others = others_of(form, keep)
    pulls = [-product_of(row, values) for row in block_of(form, others, keep)]
    settled_numbers, bottom = solve(Form(block_of(form, others, others)), (pulls, 1))
    numbers = [0] * form.size
    for index, value in zip(keep, values):
        numbers[index] = value * bottom
    for index, number in zip(others, settled_numbers):
        numbers[index] = number
    return vector(numbers, bottom)
