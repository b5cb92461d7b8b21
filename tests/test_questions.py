import unittest
from fractions import Fraction
from random import Random

from fourcords.factors import least_high
from fourcords.forms import Form
from fourcords.grades import grade_factor
from fourcords.questions import form_of_readings, spread, worst_question
from fourcords.surveys import Survey, best_guess, few_readings
from reference import (BIG, HUGE, as_lists, at_row, dot, echelon, inverse_of, matrix, nonnegative, number, numbers,
                       random_row, random_survey, rank_of, sample_surveys)

EMPTY = [Survey(0, []), Survey(3, []), Survey(9, [])]


def rows_of(survey):
    return [row for row, _, _ in survey.readings]


def can_be_answered(survey, question):
    rows = rows_of(survey)
    return rank_of(rows, survey.size) == rank_of([*rows, question], survey.size)


def some_questions(random, survey):
    """Questions that can be answered and others, some of them multiples of one another."""
    rows = rows_of(survey)
    found = [(0,) * survey.size]
    for _ in range(5):
        times = [random.randint(-3, 3) for _ in rows]
        found.append(tuple(sum(x * row[k] for x, row in zip(times, rows)) for k in range(survey.size)))
        found.append(random_row(random, survey.size, 4))
    return found


class Spread(unittest.TestCase):
    def test_samples(self):
        random, none, some = Random(1), 0, 0
        for survey in sample_surveys(2, 40):
            turned = inverse_of(matrix(form_of_readings(survey)))
            for question in some_questions(random, survey):
                told = spread(survey, question)
                self.assertEqual(spread(survey, list(question)), told)
                if can_be_answered(survey, question):
                    some += 1
                    self.assertEqual(number(told), at_row(turned, question))
                else:
                    none += 1
                    self.assertIsNone(told)
        self.assertGreater(min(none, some), 50)

    def test_told_answers(self):
        survey = Survey(1, [((1,), 1, 1), ((1,), 4, 1)])
        self.assertEqual([spread(survey, (x,)) for x in (1, -2, 0)], [(1, 2), (2, 1), (0, 1)])
        # A greater weight makes the answer surer; the values make no difference.
        survey = Survey(2, [((1, 0), 5, 6), ((0, 3), -HUGE, 8)], bottom=4)
        self.assertEqual([spread(survey, question) for question in ((1, 0), (0, 1), (2, 3), [0, -3])],
                         [(2, 3), (1, 18), (19, 6), (1, 2)])
        # Only the sum of the unknowns was read.
        survey = Survey(2, [((1, 1), 5, 2)])
        self.assertEqual([spread(survey, question) for question in ((1, 1), (-3, -3), (1, 0), (0, 1), (1, -1), (0, 0))],
                         [(1, 2), (9, 2), None, None, None, (0, 1)])

    def test_the_question_that_is_all_zeros(self):
        for survey in sample_surveys(3) + EMPTY:
            self.assertEqual(spread(survey, (0,) * survey.size), (0, 1))

    def test_without_readings(self):
        self.assertEqual(spread(Survey(0, []), ()), (0, 1))
        self.assertEqual(spread(Survey(0, [((), 5, 1)]), []), (0, 1))
        self.assertEqual([spread(Survey(2, []), question) for question in ((1, 0), (0, 2))], [None, None])
        self.assertIsNone(spread(Survey(1, [((0,), 3, 1)]), (1,)))

    def test_the_answer_of_all_best_vectors(self):
        random = Random(4)
        for survey in sample_surveys(5, 30):
            form, best = form_of_readings(survey), numbers(best_guess(survey))
            free = [point for point in some_questions(random, survey) if form(point) == (0, 1)]
            for question in some_questions(random, survey):
                answers = {dot(question, best)}
                answers |= {dot(question, best) + 3 * dot(question, point) for point in free}
                if spread(survey, question) is not None:
                    self.assertEqual(len(answers), 1)

    def test_few_readings(self):
        random = Random(6)
        for survey in sample_surveys(7):
            for grade in (2, 3):
                if grade == 3 and survey.size > 2:
                    continue
                few, factor = few_readings(survey, grade=grade), number(grade_factor(grade))
                for question in some_questions(random, survey):
                    one, two = spread(survey, question), spread(few, question)
                    self.assertEqual(one is None, two is None)
                    if one is not None:
                        self.assertTrue(number(two) <= number(one) <= factor * number(two))

    def test_long_numbers(self):
        random = Random(8)
        survey = Survey(9, [(random_row(random, 9, BIG), random.randint(-HUGE, HUGE), random.randint(1, HUGE))
                            for _ in range(20)], bottom=HUGE - 2)
        question = random_row(random, 9, BIG)
        self.assertEqual(number(spread(survey, question)), at_row(inverse_of(matrix(form_of_readings(survey))), question))


class WorstQuestion(unittest.TestCase):
    def keeps(self, survey, few, factor):
        """Whether no spread in the survey is above the factor times the one in the few, over all questions."""
        basis = echelon(rows_of(survey), survey.size)[0]
        one, two = (inverse_of(matrix(form_of_readings(told))) for told in (survey, few))
        gap = [[factor * y - x for x, y in zip(left, right)] for left, right in zip(one, two)]
        products = [[sum((gap[i][j] * p[i] * q[j] for i in range(survey.size) for j in range(survey.size)), Fraction(0))
                     for q in basis] for p in basis]
        bottom = 1
        for row in products:
            for x in row:
                bottom *= x.denominator
        return nonnegative(Form([[int(x * bottom) for x in row] for row in products]))

    def check(self, survey, few, bottom):
        told = worst_question(survey, few, bottom=bottom)
        self.assertEqual((type(told), len(told)), (tuple, 2))
        p, question = told
        self.assertTrue(self.keeps(survey, few, Fraction(p, bottom)))
        if p == bottom:
            self.assertIsNone(question)
            return p
        self.assertGreater(p, bottom)
        self.assertFalse(self.keeps(survey, few, Fraction(p - 1, bottom)))
        self.assertIs(type(question), tuple)
        self.assertEqual((len(question), any(question)), (survey.size, True))
        self.assertTrue(all(type(x) is int for x in question))
        one, two = spread(survey, question), spread(few, question)
        self.assertGreater(number(one), Fraction(p - 1, bottom) * number(two))
        self.assertLessEqual(number(one), Fraction(p, bottom) * number(two))
        return p

    def test_few_readings(self):
        random = Random(9)
        for survey in sample_surveys(10):
            few = few_readings(survey)
            for bottom in (1, random.randint(2, 50)):
                self.assertLessEqual(self.check(survey, few, bottom), Fraction(29, 3) * bottom + 1)
        survey = random_survey(random, 2, 40)
        self.check(survey, few_readings(survey, grade=5), 1000000)

    def test_greater_weights(self):
        random = Random(11)
        for survey in sample_surveys(12):
            raised = [(row, value, weight + random.randint(0, 5)) for row, value, weight in survey.readings]
            self.check(survey, Survey(survey.size, raised, bottom=survey.bottom), random.randint(1, 20))
            doubled = survey.readings + tuple((row, -value, weight) for row, value, weight in survey.readings)
            self.check(survey, Survey(survey.size, doubled, bottom=survey.bottom), random.choice([1, 3, 1000000]))

    def test_just_reached_and_just_missed(self):
        survey = Survey(1, [((1,), 3, 2)])
        # The spread of the survey is 5/2 times that of the few.
        few = Survey(1, [((1,), -1, 5)])
        for bottom, p in [(1, 3), (2, 5), (3, 8), (4, 10), (999999, 2499998), (1000000, 2500000)]:
            self.assertEqual(self.check(survey, few, bottom), p)
        for weight, p in [(10 ** 20, 5), (10 ** 20 + 1, 6), (10 ** 20 - 1, 5)]:
            self.assertEqual(self.check(Survey(1, [((1,), 3, 4 * 10 ** 19)]), Survey(1, [((1,), 3, weight)]), 2), p)
        # Just above the bottom, and the bottom itself.
        self.assertEqual(self.check(survey, Survey(1, [((1,), 3, 2000001)], bottom=1000000), 1), 2)
        self.assertEqual(self.check(survey, Survey(1, [((1,), 3, 2000001)], bottom=1000000), 1000000), 1000001)
        self.assertEqual(self.check(survey, Survey(1, [((5,), 3, 2)], bottom=25), 1000000), 1000000)

    def test_the_question_in_which_they_differ(self):
        survey = Survey(3, [((1, 0, 0), 1, 1), ((0, 1, 0), 1, 1), ((0, 2, 0), 7, 1)])
        few = Survey(3, [((1, 0, 0), 1, 1), ((0, 1, 0), 1, 15)])
        p, question = worst_question(survey, few, bottom=1)
        self.assertEqual((p, question[0], question[2], question[1] != 0), (3, 0, 0, True))
        self.check(survey, few, 1)

    def test_equal_surveys(self):
        for survey in sample_surveys(13) + EMPTY:
            for bottom in (1, 7, 1000000):
                self.assertEqual(worst_question(survey, survey, bottom=bottom), (bottom, None))

    def test_without_readings(self):
        for one, two in [(Survey(2, []), Survey(2, [((0, 0), 5, 1)])), (Survey(0, []), Survey(0, [((), 5, 9)]))]:
            self.assertEqual(worst_question(one, two, bottom=3), (3, None))
            self.assertEqual(worst_question(two, one, bottom=3), (3, None))

    def test_it_is_the_factor_of_the_forms(self):
        for survey in sample_surveys(14):
            few = few_readings(survey)
            high = least_high(form_of_readings(survey), form_of_readings(few), bottom=100)
            self.assertEqual(worst_question(survey, few, bottom=100)[0], max(high, 100))

    def test_equal_questions_have_equal_answers(self):
        survey = Survey(2, [((1, 1), 5, 2), ((1, -1), 5, 4)], bottom=6)
        few = Survey(2, [((1, 1), 5, 3), ((1, -1), 5, 4)], bottom=6)
        wide = Survey(2, as_lists([((1, 1), 5, 20), ((1, -1), 5, 40)]), bottom=60)
        self.assertEqual(worst_question(survey, few, bottom=5), worst_question(wide, few, bottom=5))


if __name__ == "__main__":
    unittest.main()
