"""Surveys: readings of some unknowns, and the guess that fits them best."""

from fourcords.copies import copied
from fourcords.ratios import vector
from fourcords.rowlists import RowList
from fourcords.seen import filled
from fourcords.thinning import thinned


class Survey:
    """Readings of sums of the unknowns, each a row, a value and a weight."""

    def __init__(self, size, readings, *, bottom=1):
        given = copied(readings)
        # The list raises the errors: a row has another length behind its value just if it had one before.
        rows = RowList(size + 1, [((*row, -value), weight) for row, value, weight in given], bottom=bottom)
        self.size = size
        self.readings = tuple([(row, value, weight) for (row, value, _), (_, weight) in zip(given, rows.pairs)])
        self.bottom = rows.bottom
        self.rows = rows

    def __len__(self):
        return len(self.readings)


def misfit(survey, guess):
    """Return the sum of the weights times the squares by which the guess misses the values, a fraction."""
    numbers, bottom = guess
    return survey.rows.form.at(((*numbers, bottom), bottom))


def best_guess(survey):
    """Return the vector with the least misfit that is 0 at every index that is not a lead."""
    numbers, bottom = filled(survey.rows.form, (survey.size,), (1,))
    return vector(numbers[:survey.size], bottom)


def least_misfit(survey):
    """Return the misfit of the best guess, a fraction."""
    return misfit(survey, best_guess(survey))


def few_readings(survey, *, grade=2, order=None):
    """Return the survey of the readings that are kept, with their new weights."""
    kept = thinned(survey.rows, grade=grade, order=order)
    readings = [(row[:survey.size], -row[survey.size], weight) for row, weight in kept.pairs]
    return Survey(survey.size, readings, bottom=kept.bottom)
