"""Forms: sums of entries[i][j] * x[i] * x[j], divided by a bottom."""

from fourcords.errors import NotSquare, NotSymmetric, SizesDiffer
from fourcords.ratios import fraction, vector


def product_of(one, two):
    """Return the sum of the products of the numbers at the same index."""
    return sum([x * y for x, y in zip(one, two)])


def check_sizes(one, two):
    """Raise SizesDiffer if two forms or two row lists have different sizes."""
    if one.size != two.size:
        raise SizesDiffer(one.size, two.size)


def check_point(form, point):
    """Raise SizesDiffer if a point or a row does not have the size of the form."""
    if len(point) != form.size:
        raise SizesDiffer(form.size, len(point))


def check_square(entries):
    """Raise NotSquare for the first row with another number of numbers than there are rows."""
    for index, row in enumerate(entries):
        if len(row) != len(entries):
            raise NotSquare(index)


def check_symmetric(entries):
    """Raise NotSymmetric for the first place above the diagonal that differs from its mirrored place."""
    for row in range(len(entries)):
        for column in range(row + 1, len(entries)):
            if entries[row][column] != entries[column][row]:
                raise NotSymmetric(row, column)


def multiplied_rows(entries, factor):
    """Return the rows with every number multiplied by the whole number."""
    return [[number * factor for number in row] for row in entries]


def summed_rows(one, two):
    """Return the sums of the numbers of two matrices at the same places."""
    return [[x + y for x, y in zip(left, right)] for left, right in zip(one, two)]


def sum_of_forms(one, two, factor):
    """Return the form whose value is that of the first form and factor times that of the second one."""
    entries = summed_rows(multiplied_rows(one.entries, two.bottom), multiplied_rows(two.entries, factor * one.bottom))
    return Form(entries, bottom=one.bottom * two.bottom)


class Form:
    """A function of points that is given by a symmetric matrix of whole numbers and a bottom."""

    def __init__(self, entries, *, bottom=1):
        check_square(entries)
        check_symmetric(entries)
        size = len(entries)
        numbers, lowest_bottom = vector([number for row in entries for number in row], bottom)
        self.size = size
        self.entries = tuple([numbers[at * size:(at + 1) * size] for at in range(size)])
        self.bottom = lowest_bottom

    def __add__(self, other):
        check_sizes(self, other)
        return sum_of_forms(self, other, 1)

    def __sub__(self, other):
        check_sizes(self, other)
        return sum_of_forms(self, other, -1)

    def __eq__(self, other):
        if not isinstance(other, Form):
            return False
        return self.entries == other.entries and self.bottom == other.bottom

    def __call__(self, point):
        """Return the value at the point, a fraction."""
        return self.between(point, point)

    def between(self, one, two):
        """Return the sum of entries[i][j] * one[i] * two[j], divided by the bottom."""
        check_point(self, one)
        check_point(self, two)
        images = [product_of(row, two) for row in self.entries]
        return fraction(product_of(one, images), self.bottom)

    def at(self, where):
        """Return the value at the numbers that a vector stands for."""
        numbers, bottom = where
        top, own_bottom = self.between(numbers, numbers)
        return fraction(top, own_bottom * bottom * bottom)

    def applied(self, where):
        """Return the product of the matrix and the vector, a vector."""
        numbers, bottom = where
        return vector([product_of(row, numbers) for row in self.entries], self.bottom * bottom)

    def scaled(self, factor):
        """Return the form whose value is multiplied by the fraction."""
        top, bottom = factor
        return Form(multiplied_rows(self.entries, top), bottom=self.bottom * bottom)

    @classmethod
    def zero(cls, size):
        """Return the form of this size that is 0 everywhere."""
        return cls([[0] * size for _ in range(size)])

    @classmethod
    def square(cls, row):
        """Return the form whose value at x is the square of row * x."""
        return cls([[one * two for two in row] for one in row])
