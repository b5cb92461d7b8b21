"""Lists of weighted rows."""

from fourcords.copies import copied
from fourcords.errors import BadRow, BadWeight
from fourcords.forms import Form, check_sizes
from fourcords.ratios import vector


def check_pairs(size, pairs):
    """Raise an error for the first pair with a row of another size or a weight below 1."""
    for index, (row, weight) in enumerate(pairs):
        if len(row) != size:
            raise BadRow(index)
        if weight < 1:
            raise BadWeight(index)


def form_of_pairs(size, pairs, bottom):
    """Return the form whose value is the sum of the weights times the squares of the rows."""
    entries = [[sum([weight * row[one] * row[two] for row, weight in pairs]) for two in range(size)]
               for one in range(size)]
    return Form(entries, bottom=bottom)


class RowList:
    """A list of rows of one size, each with a weight."""

    def __init__(self, size, pairs, *, bottom=1):
        given = copied(pairs)
        check_pairs(size, given)
        weights, lowest_bottom = vector([weight for _, weight in given], bottom)
        lowest_pairs = tuple([(row, weight) for (row, _), weight in zip(given, weights)])
        self.size = size
        self.pairs = lowest_pairs
        self.bottom = lowest_bottom
        self.form = form_of_pairs(size, lowest_pairs, lowest_bottom)

    def __len__(self):
        return len(self.pairs)

    def __iter__(self):
        return iter(self.pairs)

    def __add__(self, other):
        check_sizes(self, other)
        pairs = [(row, weight * other.bottom) for row, weight in self.pairs]
        other_pairs = [(row, weight * self.bottom) for row, weight in other.pairs]
        return RowList(self.size, pairs + other_pairs, bottom=self.bottom * other.bottom)

    def __eq__(self, other):
        if not isinstance(other, RowList):
            return False
        return self.size == other.size and self.pairs == other.pairs and self.bottom == other.bottom

    def scaled(self, factor):
        """Return the list with the same rows and all weights multiplied by a fraction above 0."""
        top, bottom = factor
        return RowList(self.size, [(row, weight * top) for row, weight in self.pairs], bottom=self.bottom * bottom)

    def picked(self, indexes):
        """Return the list of the pairs with these indexes, in the order of the indexes."""
        return RowList(self.size, [self.pairs[index] for index in indexes], bottom=self.bottom)
