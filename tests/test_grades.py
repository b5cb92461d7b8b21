import unittest
from fractions import Fraction

from fourcords.grades import grade_factor, grade_fences, grade_gap, grade_moves, grade_steps, grade_unit
from reference import number


class Grades(unittest.TestCase):
    def test_all_grades_and_ranks(self):
        for k in range(2, 11):
            n = Fraction(9 * (k - 1))
            for r in range(11):
                self.assertEqual((type(grade_steps(k, r)), grade_steps(k, r)), (int, k * k * r))
                fences = grade_fences(k, r)
                self.assertIs(type(fences), tuple)
                self.assertEqual([number(fence) for fence in fences], [-k * r, Fraction(k * (k + 1) * r, k - 1)])
            self.assertEqual((type(grade_unit(k)), grade_unit(k)), (int, 9 * k - 8))
            self.assertEqual(grade_unit(k), n + 1)
            moves = grade_moves(k)
            self.assertIs(type(moves), tuple)
            self.assertEqual([number(move) for move in moves], [1, (k + 1) * (n + 1) / ((k - 1) * n)])
            self.assertEqual(number(grade_gap(k)), (k - 1) / ((k + 1) * (n + 1)))
            self.assertEqual(number(grade_factor(k)), (k + 1) * (n * (k + 1) + k) / (n * (k - 1) * (k - 1)))

    def test_told_answers(self):
        self.assertEqual([grade_factor(k) for k in (2, 3, 4, 5, 10)],
                         [(29, 3), (25, 6), (695, 243), (221, 96), (9911, 6561)])
        self.assertEqual((grade_steps(2, 3), grade_fences(2, 1), grade_unit(2)), (12, ((-2, 1), (6, 1)), 10))
        self.assertEqual((grade_moves(2), grade_gap(2)), (((1, 1), (10, 3)), (1, 30)))
        self.assertEqual((grade_steps(3, 0), grade_fences(3, 0)), (0, ((0, 1), (0, 1))))

    def test_the_factor_falls(self):
        factors = [number(grade_factor(k)) for k in range(2, 11)]
        self.assertEqual(factors, sorted(factors, reverse=True))
        self.assertEqual(len(set(factors)), 9)
        self.assertGreater(factors[-1], 1)


if __name__ == "__main__":
    unittest.main()
