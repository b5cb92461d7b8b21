import unittest
from fractions import Fraction
from math import gcd
from random import Random

from fourcords.errors import BelowZero
from fourcords.forms import Form
from fourcords.judging import free_points, is_squares, judge, leads, rank
from reference import (HUGE, as_lists, dot, echelon, form_of_squares, has_list, matrix, nonnegative, number,
                       random_form, rank_of, sample_forms, value)

BELOW = [
    Form([[-1]]), Form([[0, 1], [1, 0]]), Form([[0, 1], [1, 5]]), Form([[0, -1], [-1, 5]]), Form([[0, 1], [1, -5]]),
    Form([[1, 2], [2, 1]]), Form([[1, 2], [2, 3]], bottom=7), Form([[0, 0], [0, -1]]), Form([[1, 1, 1], [1, 1, 2], [1, 2, 1]]),
    Form([[1, 1, 1], [1, 1, 2], [1, 2, 9]]), Form([[0, 0, 0], [0, 0, -3], [0, -3, 100]]),
    Form([[2, 2, 0], [2, 2, 1], [0, 1, HUGE]]), Form([[4, 2, 2], [2, 1, 1], [2, 1, 0]]),
]


def lead(row):
    return next(k for k, x in enumerate(row) if x != 0)


class Judging(unittest.TestCase):
    def check_squares(self, form, squares):
        """The rules for echelon squares; by point 11 only one sequence keeps to them."""
        self.assertIs(type(squares), tuple)
        self.assertFalse(has_list(squares))
        self.assertEqual(form_of_squares(form.size, squares), matrix(form))
        at = [lead(row) for _, _, row in squares]
        self.assertEqual(at, sorted(set(at)))
        for top, bottom, row in squares:
            self.assertEqual(len(row), form.size)
            self.assertGreater(row[lead(row)], 0)
            self.assertEqual(gcd(*row), 1)
            self.assertGreaterEqual(min(top, bottom), 1)
            self.assertEqual(gcd(top, bottom), 1)

    def check_below(self, form, judgement):
        self.assertIs(judgement.holds, False)
        self.assertEqual(judgement.squares, ())
        self.assertIs(type(judgement.point), tuple)
        self.assertEqual(len(judgement.point), form.size)
        self.assertLess(value(form, judgement.point), 0)

    def test_any_forms(self):
        random = Random(1)
        seen = {True: 0, False: 0}
        for k in range(400):
            form = random_form(random, k % 4, 2)
            judgement = judge(form)
            self.assertEqual(judgement.holds, nonnegative(form))
            seen[judgement.holds] += 1
            if judgement.holds:
                self.assertIs(judgement.holds, True)
                self.assertIsNone(judgement.point)
                self.check_squares(form, judgement.squares)
            else:
                self.check_below(form, judgement)
        self.assertGreater(min(seen.values()), 60)

    def test_nonnegative_forms_of_every_rank(self):
        ranks = set()
        for form in sample_forms(2, 100):
            judgement = judge(form)
            self.assertIs(judgement.holds, True)
            self.assertIsNone(judgement.point)
            self.check_squares(form, judgement.squares)
            ranks.add((form.size, len(judgement.squares)))
        self.assertEqual(ranks, {(size, r) for size in range(5) for r in range(size + 1)})

    def test_told_squares(self):
        self.assertEqual(judge(Form([[2, 1], [1, 2]])).squares, ((1, 2, (2, 1)), (3, 2, (0, 1))))
        self.assertEqual(judge(Form([[0, 0], [0, 8]], bottom=3)).squares, ((8, 3, (0, 1)),))
        self.assertEqual(judge(Form([[4, -6], [-6, 9]])).squares, ((1, 1, (2, -3)),))
        self.assertEqual(judge(Form.zero(0)).squares, ())
        self.assertEqual(judge(Form.zero(3)).squares, ())

    def test_forms_below_zero(self):
        for form in BELOW:
            self.check_below(form, judge(form))

    def test_barely_above_and_below_zero(self):
        form = Form([[HUGE, HUGE - 1], [HUGE - 1, HUGE - 2]])
        self.check_below(form, judge(form))
        form = Form([[HUGE, HUGE - 1], [HUGE - 1, HUGE - 1]])
        self.check_squares(form, judge(form).squares)

    def test_size_ten(self):
        random = Random(3)
        for r in (0, 1, 5, 9, 10):
            rows = [[random.randint(-10 ** 12, 10 ** 12) for _ in range(10)] for _ in range(r)]
            form = Form.zero(10)
            for row in rows:
                form = form + Form.square(row).scaled((random.randint(1, HUGE), random.randint(1, HUGE)))
            judgement = judge(form)
            self.check_squares(form, judgement.squares)
            self.assertEqual(len(judgement.squares), r)
            self.assertTrue(is_squares(form, judgement.squares))
            again = Form.zero(10)
            for top, bottom, row in judgement.squares:
                again = again + Form.square(row).scaled((top, bottom))
            self.assertEqual(judge(again).squares, judgement.squares)
            if r < 10:
                less = form - Form.square((1,) * 10).scaled((1, HUGE))
                self.check_below(less, judge(less))


class Squares(unittest.TestCase):
    FORM = Form([[2, 1], [1, 2]])
    RIGHT = [(1, 1, (1, 0)), (1, 1, (0, 1)), (1, 1, (1, 1))]

    def test_right_squares(self):
        self.assertIs(is_squares(self.FORM, self.RIGHT), True)
        self.assertIs(is_squares(self.FORM, as_lists(self.RIGHT)), True)
        self.assertIs(is_squares(self.FORM, self.RIGHT[::-1]), True)
        self.assertIs(is_squares(self.FORM, [(4, 4, (-1, 0)), (2, 8, (0, 2)), (9, 9, (1, 1))]), True)

    def test_zero_rows_and_rows_passed_twice(self):
        self.assertTrue(is_squares(self.FORM, self.RIGHT + [(5, 3, (0, 0))]))
        self.assertTrue(is_squares(self.FORM, [(1, 2, (1, 0)), (1, 2, (1, 0))] + self.RIGHT[1:]))
        self.assertTrue(is_squares(Form.zero(2), [(1, 1, (0, 0)), (1, 1, (0, 0))]))
        self.assertFalse(is_squares(self.FORM, self.RIGHT + self.RIGHT[:1]))

    def test_the_empty_sequence(self):
        for size in (0, 1, 3, 10):
            self.assertIs(is_squares(Form.zero(size), ()), True)
            self.assertIs(is_squares(Form.zero(size), []), True)
        self.assertIs(is_squares(self.FORM, ()), False)

    def test_wrong_squares(self):
        for at in range(3):
            for wrong in ((2, 1, self.RIGHT[at][2]), (1, 2, self.RIGHT[at][2]), (1, 1, (1, 2))):
                squares = list(self.RIGHT)
                squares[at] = wrong
                self.assertIs(is_squares(self.FORM, squares), False)
            self.assertIs(is_squares(self.FORM, self.RIGHT[:at] + self.RIGHT[at + 1:]), False)
        self.assertFalse(is_squares(Form([[2, 1], [1, 2]], bottom=2), self.RIGHT))
        self.assertFalse(is_squares(Form([[1, 2], [2, 1]]), [(1, 1, (1, 0)), (1, 1, (0, 1))]))

    def test_tops_and_bottoms_below_one(self):
        whole = [(2, 1, (1, 0))]
        for wrong in ([(0, 1, (1, 1))], [(1, 0, (0, 0))], [(-1, 1, (0, 0))], [(1, -1, (0, 0))], [(-1, -1, (0, 0))],
                      [(0, 1, (0, 0))], [(0, 0, (0, 0))], [(1, 1, (0, 1)), (-1, 1, (0, 1))]):
            self.assertIs(is_squares(Form([[2, 0], [0, 0]]), whole + wrong), False)
            self.assertIs(is_squares(Form([[2, 0], [0, 0]]), wrong + whole), False)
        # These would add up to the form if minus signs were let.
        self.assertIs(is_squares(Form([[2]]), [(-2, -1, (1,))]), False)
        self.assertIs(is_squares(Form([[2]]), [(3, 1, (1,)), (-1, 1, (1,))]), False)

    def test_rows_of_another_size(self):
        for row in ((), (0,), (0, 0, 0), [0, 0, 0]):
            self.assertIs(is_squares(self.FORM, self.RIGHT + [(1, 1, row)]), False)
        self.assertIs(is_squares(Form.zero(0), [(1, 1, (0,))]), False)
        self.assertIs(is_squares(Form.zero(0), [(1, 1, ())]), True)

    def test_long_numbers(self):
        form = Form([[HUGE]], bottom=HUGE - 1)
        self.assertTrue(is_squares(form, [(HUGE, HUGE - 1, (1,))]))
        self.assertTrue(is_squares(form, [(HUGE - 1, HUGE - 1, (1,)), (1, HUGE - 1, (-1,))]))
        self.assertFalse(is_squares(form, [(HUGE, HUGE - 2, (1,))]))


class Leads(unittest.TestCase):
    def test_leads_rank_and_free_points(self):
        for form in sample_forms(4, 100):
            m = matrix(form)
            pivots = echelon(m, form.size)[1]
            self.assertEqual(leads(form), tuple(lead(row) for _, _, row in judge(form).squares))
            self.assertEqual(leads(form), tuple(pivots))
            self.assertEqual(rank(form), rank_of(m, form.size))
            points = free_points(form)
            self.assertIs(type(points), tuple)
            others = [k for k in range(form.size) if k not in pivots]
            self.assertEqual(len(points), len(others))
            for j, point in zip(others, points):
                self.assertIs(type(point), tuple)
                self.assertEqual(len(point), form.size)
                self.assertEqual(gcd(*point), 1)
                self.assertGreater(point[j], 0)
                self.assertTrue(all(point[k] == 0 for k in others if k != j))
                self.assertEqual(value(form, point), 0)
                self.assertTrue(all(dot(row, point) == 0 for row in m))

    def test_told_answers(self):
        self.assertEqual(leads(Form([[1, 1], [1, 1]])), (0,))
        self.assertEqual(free_points(Form([[1, 1], [1, 1]])), ((-1, 1),))
        self.assertEqual(free_points(Form([[4, -6], [-6, 9]])), ((3, 2),))
        self.assertEqual(leads(Form([[0, 0], [0, 3]])), (1,))
        self.assertEqual(free_points(Form([[0, 0], [0, 3]])), ((1, 0),))
        self.assertEqual(free_points(Form.zero(2)), ((1, 0), (0, 1)))
        self.assertEqual((leads(Form.zero(0)), rank(Form.zero(0)), free_points(Form.zero(0))), ((), 0, ()))
        self.assertEqual((leads(Form.zero(10)), rank(Form.zero(10)), len(free_points(Form.zero(10)))), ((), 0, 10))

    def test_below_zero_from_each(self):
        for form in BELOW:
            for ask in (leads, rank, free_points):
                with self.assertRaises(BelowZero) as caught:
                    ask(form)
                self.assertEqual(len(caught.exception.point), form.size)
                self.assertLess(number(form(caught.exception.point)), 0)

    def test_values_of_fractions(self):
        form = Form([[1, 1], [1, 1]])
        point = free_points(form)[0]
        self.assertEqual(form.at((point, 3)), (0, 1))
        self.assertEqual(value(form, [Fraction(x, 3) for x in point]), 0)


if __name__ == "__main__":
    unittest.main()
