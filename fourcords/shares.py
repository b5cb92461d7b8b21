"""Which share of the rank of a list each of its pairs has."""

from fourcords.inverses import inverse
from fourcords.ratios import multiplied


def shares(rows):
    """Return the weight times the value of the inverse at the row, a fraction for each pair."""
    turned = inverse(rows.form)
    return tuple([multiplied((weight, rows.bottom), turned(row)) for row, weight in rows.pairs])
