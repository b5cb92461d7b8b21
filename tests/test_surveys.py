import unittest
from fractions import Fraction
from math import gcd
from random import Random

from fourcords.errors import BadRow, BadWeight
from fourcords.grades import grade_factor
from fourcords.judging import leads, rank
from fourcords.rowlists import RowList, form_of_pairs
from fourcords.surveys import Survey, best_guess, few_readings, least_misfit, misfit
from fourcords.thinning import thinned
from reference import (BIG, HUGE, as_vector, dot, inverse_of, matrix, number, numbers, random_row, random_survey,
                       sample_surveys)

SURVEY = Survey(2, [((1, 0), 3, 2), ((0, 1), -1, 4), ((1, 1), 5, 6), ((1, 0), 4, 2)], bottom=8)
EMPTY = [Survey(0, []), Survey(3, []), Survey(9, [])]


def form_of(survey):
    """The form of the rows without their values."""
    return form_of_pairs(survey.size, [(row, weight) for row, _, weight in survey.readings], survey.bottom)


def slow_misfit(survey, guess):
    """By the readings one by one, at a list of fractions."""
    return sum((Fraction(weight, survey.bottom) * (dot(row, guess) - value) ** 2
                for row, value, weight in survey.readings), Fraction(0))


class Creating(unittest.TestCase):
    def check_fault(self, error, index, size, readings):
        for given in (readings, tuple(readings)):
            with self.assertRaises(error) as caught:
                Survey(size, given)
            self.assertEqual(caught.exception.index, index)

    def test_bad_rows(self):
        good = ((1, 2), 5, 1)
        for row in ((), (1,), (1, 2, 3), [0] * 9):
            self.check_fault(BadRow, 0, 2, [(row, 5, 1)])
            self.check_fault(BadRow, 2, 2, [good, good, (row, 5, 1), ((1, 2), 5, 0)])
            # A reading with both faults.
            self.check_fault(BadRow, 1, 2, [good, (row, 5, 0)])
        self.check_fault(BadRow, 0, 0, [((1,), 5, 1)])
        self.check_fault(BadRow, 0, 9, [((1,) * 10, 5, 1)])

    def test_bad_weights(self):
        good = ((1, 2), 5, 1)
        for weight in (0, -1, -HUGE):
            self.check_fault(BadWeight, 0, 2, [((1, 2), 5, weight)])
            self.check_fault(BadWeight, 1, 2, [good, ((1, 2), 5, weight), ((1,), 5, 1)])
        self.check_fault(BadWeight, 1, 0, [((), 5, 1), ((), 5, 0)])

    def test_the_first_faulty_reading(self):
        good = ((1, 2), 5, 1)
        self.check_fault(BadRow, 1, 2, [good, ((1,), 5, 1), ((1, 2), 5, 0), ((1, 2, 3), 5, 0)])
        self.check_fault(BadWeight, 1, 2, [good, ((1, 2), 5, 0), ((1,), 5, 1)])

    def test_fields(self):
        self.assertEqual((SURVEY.size, SURVEY.bottom, len(SURVEY)), (2, 4, 4))
        self.assertEqual(SURVEY.readings, (((1, 0), 3, 1), ((0, 1), -1, 2), ((1, 1), 5, 3), ((1, 0), 4, 1)))
        self.assertTrue(SURVEY.rows == RowList(3, [((1, 0, -3), 1), ((0, 1, 1), 2), ((1, 1, -5), 3), ((1, 0, -4), 1)],
                                               bottom=4))
        # Rows and values stay, whatever divides them.
        survey = Survey(2, [((4, 6), 8, 10), ((0, 0), 0, 20)], bottom=10)
        self.assertEqual((survey.readings, survey.bottom), ((((4, 6), 8, 1), ((0, 0), 0, 2)), 1))
        self.assertEqual(Survey(1, [((1,), 2, 3)]).bottom, 1)

    def test_samples(self):
        random = Random(1)
        for _ in range(30):
            size, bottom = random.randint(0, 9), random.randint(1, 40)
            readings = [(random_row(random, size, 9), random.randint(-HUGE, HUGE), random.randint(1, 40))
                        for _ in range(random.randint(1, 60))]
            survey = Survey(size, readings, bottom=bottom)
            self.assertEqual(gcd(survey.bottom, *[weight for _, _, weight in survey.readings]), 1)
            self.assertEqual([(row, value, Fraction(weight, survey.bottom)) for row, value, weight in survey.readings],
                             [(row, value, Fraction(weight, bottom)) for row, value, weight in readings])
            self.assertTrue(survey.rows == RowList(size + 1, [((*row, -value), weight) for row, value, weight in readings],
                                                   bottom=bottom))
            self.assertEqual((survey.size, survey.rows.bottom, len(survey)), (size, survey.bottom, len(readings)))

    def test_nothing(self):
        for survey in EMPTY:
            self.assertEqual((survey.readings, survey.bottom, len(survey)), ((), 1, 0))
            self.assertTrue(survey.rows == RowList(survey.size + 1, []))
            self.assertEqual(Survey(survey.size, (), bottom=6).bottom, 1)
        survey = Survey(0, [((), 7, 2), ([], 0, 4)], bottom=2)
        self.assertEqual((survey.readings, survey.bottom), ((((), 7, 1), ((), 0, 2)), 1))
        self.assertTrue(survey.rows == RowList(1, [((-7,), 1), ((0,), 2)]))

    def test_lists_and_later_changes(self):
        readings = [[[1, 0], 3, 2], [[0, 1], -1, 4]]
        survey = Survey(2, readings, bottom=6)
        readings[0][0][0] = 9
        readings[1][1] = 9
        readings.append([[1], 1, 1])
        self.assertEqual((survey.readings, survey.bottom), ((((1, 0), 3, 1), ((0, 1), -1, 2)), 3))
        self.assertTrue(survey.rows == RowList(3, [((1, 0, -3), 1), ((0, 1, 1), 2)], bottom=3))
        for row, _, _ in survey.readings:
            self.assertIs(type(row), tuple)


class Guesses(unittest.TestCase):
    def test_misfits(self):
        random = Random(2)
        for survey in sample_surveys(3):
            for _ in range(3):
                guess, bottom = random_row(random, survey.size, 9), random.randint(1, 6)
                expected = slow_misfit(survey, [Fraction(x, bottom) for x in guess])
                self.assertEqual(number(misfit(survey, (guess, bottom))), expected)
                self.assertEqual(number(misfit(survey, [[-5 * x for x in guess], 5 * bottom])),
                                 slow_misfit(survey, [Fraction(-x, bottom) for x in guess]))

    def test_best_guesses(self):
        for survey in sample_surveys(4):
            told, form = best_guess(survey), form_of(survey)
            pull = [sum((Fraction(weight, survey.bottom) * row[k] * value for row, value, weight in survey.readings),
                        Fraction(0)) for k in range(survey.size)]
            self.assertEqual(numbers(told), [dot(row, pull) for row in inverse_of(matrix(form))])
            self.assertTrue(all(told[0][k] == 0 for k in range(survey.size) if k not in leads(form)))
            self.assertEqual(least_misfit(survey), misfit(survey, told))
            self.assertEqual(number(least_misfit(survey)), slow_misfit(survey, numbers(told)))

    def test_no_other_guess_has_a_smaller_misfit(self):
        random = Random(5)
        for survey in sample_surveys(6):
            least, best, m = number(least_misfit(survey)), numbers(best_guess(survey)), matrix(form_of(survey))
            for _ in range(5):
                move = [Fraction(random.randint(-3, 3), 4) for _ in range(survey.size)]
                told = number(misfit(survey, as_vector([x + y for x, y in zip(best, move)])))
                self.assertGreaterEqual(told, least)
                self.assertEqual(told == least, not any(dot(row, move) for row in m))

    def test_told_answers(self):
        survey = Survey(1, [((1,), 1, 1), ((1,), 4, 1)])
        self.assertEqual([best_guess(survey), least_misfit(survey), misfit(survey, ((0,), 1))],
                         [((5,), 2), (9, 2), (17, 1)])
        self.assertEqual(misfit(survey, [[6], 4]), (13, 2))
        # Index 1 is no lead, and index 2 is not read at all.
        survey = Survey(3, [((1, 2, 0), 3, 1), ((2, 4, 0), 6, 5)], bottom=3)
        self.assertEqual((best_guess(survey), least_misfit(survey)), (((3, 0, 0), 1), (0, 1)))
        # Index 0 is not read, so index 1 is the first lead.
        self.assertEqual(best_guess(Survey(2, [((0, 4), 6, 9)])), ((0, 3), 2))
        self.assertEqual(best_guess(Survey(2, [((0, 0), 6, 9)], bottom=6)), ((0, 0), 1))
        self.assertEqual(least_misfit(Survey(2, [((0, 0), 6, 9)], bottom=6)), (54, 1))

    def test_nothing(self):
        for survey in EMPTY:
            self.assertEqual(best_guess(survey), ((0,) * survey.size, 1))
            self.assertEqual((least_misfit(survey), misfit(survey, ((8,) * survey.size, 4))), ((0, 1), (0, 1)))
        survey = Survey(0, [((), 7, 1), ((), -1, 2)], bottom=2)
        self.assertEqual((best_guess(survey), least_misfit(survey), misfit(survey, ([], 5))),
                         (((), 1), (51, 2), (51, 2)))

    def test_long_numbers(self):
        random = Random(7)
        survey = Survey(9, [(random_row(random, 9, BIG), random.randint(-HUGE, HUGE), random.randint(1, HUGE))
                            for _ in range(60)], bottom=HUGE - 2)
        best = best_guess(survey)
        self.assertEqual(number(misfit(survey, best)), slow_misfit(survey, numbers(best)))
        moved = (best[0][0] + 1, *best[0][1:]), best[1]
        self.assertLess(number(least_misfit(survey)), number(misfit(survey, moved)))


class FewReadings(unittest.TestCase):
    def check(self, random, survey, grade, order=None):
        few = few_readings(survey, grade=grade, order=order)
        self.assertIsInstance(few, Survey)
        self.assertTrue(few.rows == thinned(survey.rows, grade=grade, order=order))
        self.assertEqual((few.size, few.bottom), (survey.size, few.rows.bottom))
        self.assertLessEqual(len(few), grade * grade * rank(survey.rows.form))
        left = [reading[:2] for reading in survey.readings]
        for row, value, _ in few.readings:
            while left[0] != (row, value):
                left.pop(0)
            left.pop(0)
        factor = number(grade_factor(grade))
        for _ in range(6):
            guess = random_row(random, survey.size, 6), random.randint(1, 4)
            one, two = number(misfit(survey, guess)), number(misfit(few, guess))
            if one == 0:
                self.assertEqual(two, 0)
            else:
                self.assertTrue(one < two < factor * one)
        self.assertLessEqual(number(misfit(survey, best_guess(few))), factor * number(least_misfit(survey)))

    def test_samples(self):
        random = Random(8)
        for survey in sample_surveys(9):
            self.check(random, survey, 2)
            order = random.sample(range(len(survey)), len(survey))
            self.check(random, survey, 2, order)
            if survey.size < 3:
                self.check(random, survey, random.choice([3, 4, 5]), tuple(order))

    def test_many_readings(self):
        random = Random(10)
        self.check(random, random_survey(random, 3, 60), 2)
        self.check(random, random_survey(random, 1, 60), 7)

    def test_told_answers(self):
        few = few_readings(Survey(1, [((1,), 0, 1)]))
        self.assertEqual((few.readings, few.bottom), ((((1,), 0, 2),), 1))
        # The value keeps its sign.
        few = few_readings(Survey(1, [((1,), 5, 1)]))
        self.assertEqual((few.readings, few.bottom), ((((1,), 5, 2),), 1))
        self.assertEqual(few_readings(SURVEY).readings, few_readings(SURVEY, grade=2, order=[0, 1, 2, 3]).readings)
        self.assertNotEqual(few_readings(SURVEY).readings, few_readings(SURVEY, order=[3, 2, 1, 0]).readings)
        self.assertNotEqual(few_readings(SURVEY).readings, few_readings(SURVEY, grade=3).readings)

    def test_nothing(self):
        for survey in EMPTY:
            for grade in (2, 10):
                few = few_readings(survey, grade=grade)
                self.assertEqual((few.size, few.readings, few.bottom), (survey.size, (), 1))
        few = few_readings(Survey(2, [((0, 0), 0, 3)]), order=(0,))
        self.assertEqual((few.size, few.readings), (2, ()))
        few = few_readings(Survey(0, [((), 0, 1), ((), 4, 1)]))
        self.assertEqual([reading[:2] for reading in few.readings], [((), 4)])


if __name__ == "__main__":
    unittest.main()
