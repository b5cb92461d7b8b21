"""Elimination in matrices of whole numbers, without fractions."""

from fourcords.ratios import common_divisor


def primitive(numbers):
    """Return the numbers, not all of them 0, divided by their greatest common divisor."""
    divisor = common_divisor(numbers)
    return tuple([number // divisor for number in numbers])


def transposed(rows, width):
    """Return the columns of a matrix whose rows have this width."""
    return [[row[column] for row in rows] for column in range(width)]


def pivoted(rows, scale, at, column):
    """Clear the column in all rows but the one at this place; its number there is the new scale."""
    first = rows[at]
    pivot = first[column]
    # The division is exact, as all numbers are minors of the first matrix; so they stay small.
    return [row if place == at else [(pivot * x - row[column] * y) // scale for x, y in zip(row, first)]
            for place, row in enumerate(rows)]


def first_filled(rows, start, column):
    """Return the place of the first row from start on with a number other than 0 in the column, or None."""
    for place in range(start, len(rows)):
        if rows[place][column] != 0:
            return place
    return None


def exchanged(rows, one, two):
    """Return the rows with two of them exchanged, one with its signs turned to keep the determinant."""
    if one == two:
        return rows
    result = list(rows)
    result[one] = rows[two]
    result[two] = [-number for number in rows[one]]
    return result


def reduced(rows, width):
    """Return (pivots, kept, scale) of a matrix, with pivots in its first columns, as many as width.

    The row kept[t] has scale at the column pivots[t] and 0 at the other pivots; the kept rows span
    all rows if the width is that of the matrix. For a square matrix with as many pivots as rows the
    scale is its determinant.
    """
    rest = rows
    pivots = []
    scale = 1
    for column in range(width):
        place = len(pivots)
        at = first_filled(rest, place, column)
        if at is not None:
            rest = pivoted(exchanged(rest, place, at), scale, place, column)
            scale = rest[place][column]
            pivots.append(column)
    return pivots, rest[:len(pivots)], scale


def kernel_point(reduction, width, column):
    """Return the primitive point of the kernel that is positive here and 0 in the other free columns."""
    pivots, kept, scale = reduction
    sign = 1 if scale > 0 else -1
    numbers = [0] * width
    numbers[column] = sign * scale
    for pivot, row in zip(pivots, kept):
        numbers[pivot] = -sign * row[column]
    return primitive(numbers)


def kernel(rows, width):
    """Return one primitive point for each column without a pivot; they span all whose product is 0."""
    reduction = reduced(rows, width)
    return [kernel_point(reduction, width, column) for column in range(width) if column not in reduction[0]]
