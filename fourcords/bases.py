"""Bases of row lists: as few rows as the rank."""

from fourcords.elimination import pivoted, reduced, transposed
from fourcords.errors import NoBasis
from fourcords.forms import check_sizes, product_of
from fourcords.judging import free_points, rank
from fourcords.ratios import vector


def ascends(indexes):
    """Return True if each index is greater than the one before it."""
    return all([indexes[at] < indexes[at + 1] for at in range(len(indexes) - 1)])


def coordinates(rows, basis, index):
    """Return the multiples of the rows of the basis whose sum is the row with the index, a vector."""
    if not ascends(basis) or len(basis) != rank(rows.form):
        raise NoBasis()
    chosen = [rows.pairs[at][0] for at in [*basis, index]]
    pivots, kept, scale = reduced(transposed(chosen, rows.size), len(basis))
    if len(pivots) < len(basis):
        raise NoBasis()
    return vector([row[-1] for row in kept], scale)


def heaviest_first(rows):
    """Return the indexes of the pairs, those with greater weights first."""
    return sorted(list(range(len(rows.pairs))), key=lambda index: -rows.pairs[index][1])


def best_exchange(table, scale, weights, basis):
    """Return the place in the basis and the column of the exchange that gains most, or None.

    None is returned if no exchange gains more than a factor of 2 in weight times multiple squared.
    """
    best = None
    best_gain = 2 * scale * scale
    best_weight = 1
    for place, column in enumerate(basis):
        for other, number in enumerate(table[place]):
            gain = weights[other] * number * number
            if gain * best_weight > best_gain * weights[column]:
                best = place, other
                best_gain = gain
                best_weight = weights[column]
    return best


def basis_of(rows):
    """Return a basis in which no exchange would gain much."""
    order = heaviest_first(rows)
    weights = [rows.pairs[index][1] for index in order]
    columns = transposed([rows.pairs[index][0] for index in order], rows.size)
    basis, table, scale = reduced(columns, len(order))
    exchange = best_exchange(table, scale, weights, basis)
    # This ends, as each exchange more than doubles the weights times the determinant squared.
    while exchange is not None:
        place, column = exchange
        table = pivoted(table, scale, place, column)
        scale = table[place][column]
        basis[place] = column
        exchange = best_exchange(table, scale, weights, basis)
    return tuple(sorted([order[column] for column in basis]))


def basis_factor(rows):
    """Return the factor within which the pairs of basis_of keep the list, a fraction."""
    size = rank(rows.form)
    return 1 + 2 * size * (len(rows) - size), 1


def missed_point(rows, others):
    """Return a point that is free for the others and not free for the rows, or None."""
    check_sizes(rows, others)
    for point in free_points(others.form):
        if any([product_of(row, point) != 0 for row, _ in rows.pairs]):
            return point
    return None
