"""What can be asked of a survey, and how sure the answers are."""

from fourcords.elimination import primitive
from fourcords.factors import least_high
from fourcords.forms import product_of
from fourcords.inverses import inverse
from fourcords.judging import free_points, judge
from fourcords.rowlists import form_of_pairs


def form_of_readings(survey):
    """Return the form of the rows of a survey without their values."""
    return form_of_pairs(survey.size, [(row, weight) for row, _, weight in survey.readings], survey.bottom)


def spread(survey, question):
    """Return how unsure the answer to a question is, a fraction, or None if it cannot be answered."""
    form = form_of_readings(survey)
    if any([product_of(question, point) != 0 for point in free_points(form)]):
        return None
    turned = inverse(form)
    return turned(question)


def worst_question(survey, few, *, bottom):
    """Return the least p, so that no spread shrinks by more than p / bottom, and a question that needs it, or None."""
    form = form_of_readings(survey)
    few_form = form_of_readings(few)
    # Spreads are values of inverses, and these turn the order of the forms round.
    p = max(bottom, least_high(form, few_form, bottom=bottom))
    if p == bottom:
        return bottom, None
    point = judge(form.scaled((p - 1, bottom)) - few_form).point
    # What breaks the factor for the forms is a vector; the question with this answer breaks it for the spreads.
    numbers, _ = few_form.applied((point, 1))
    return p, primitive(numbers)
