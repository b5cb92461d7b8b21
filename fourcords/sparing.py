"""Row lists whose squares do not depend on one another."""

from fourcords.elimination import kernel, primitive
from fourcords.ratios import vector
from fourcords.rowlists import RowList


def square_numbers(row):
    """Return the numbers that tell the square of a row: the products of any two of its numbers."""
    return [row[one] * row[two] for one in range(len(row)) for two in range(one, len(row))]


def dependences(rows):
    """Return dependences of the squares of the rows of which all others are sums of multiples."""
    squares = [square_numbers(row) for row, _ in rows.pairs]
    count = rows.size * (rows.size + 1) // 2
    return kernel([[square[at] for square in squares] for at in range(count)], len(squares))


def dependence(rows):
    """Return whole numbers, not all 0, with which the squares of the rows cancel, or None."""
    found = dependences(rows)
    return found[0] if found else None


def first_emptied(weights, numbers):
    """Return the index whose weight is the first to become 0 if the numbers are taken off again and again."""
    best = None
    for index, number in enumerate(numbers):
        if number > 0 and (best is None or weights[index] * numbers[best] < weights[best] * number):
            best = index
    return best


def cleared(numbers, others, index):
    """Return the numbers with a multiple of the others taken off so that 0 stands at the index."""
    return [x * others[index] - numbers[index] * y for x, y in zip(numbers, others)]


def spared(rows):
    """Return a row list with the same form whose squares are independent."""
    weights = [weight for _, weight in rows.pairs]
    bottom = rows.bottom
    left = dependences(rows)
    while left:
        numbers = left[0]
        # Some number is above 0: each dependence stays positive at the column that is free for it alone.
        index = first_emptied(weights, numbers)
        weights, bottom = vector(cleared(weights, numbers, index), bottom * numbers[index])
        # No later dependence may give a weight back to the pair that was emptied.
        left = [primitive(cleared(others, numbers, index)) for others in left[1:]]
    pairs = [(row, weight) for (row, _), weight in zip(rows.pairs, weights) if weight > 0]
    return RowList(rows.size, pairs, bottom=bottom)
