import unittest
from fractions import Fraction
from random import Random

from fourcords.judging import rank
from fourcords.rowlists import RowList
from fourcords.shares import shares
from reference import BIG, HUGE, at_row, inverse_of, matrix, number, random_row, random_rows


class Shares(unittest.TestCase):
    def check(self, rows):
        told = shares(rows)
        self.assertIs(type(told), tuple)
        self.assertEqual(len(told), len(rows))
        turned = inverse_of(matrix(rows.form))
        parts = [number(share) for share in told]
        for index, (row, weight) in enumerate(rows):
            self.assertEqual(parts[index], Fraction(weight, rows.bottom) * at_row(turned, row))
            self.assertTrue(0 <= parts[index] <= 1)
            without = rows.picked([k for k in range(len(rows)) if k != index])
            self.assertEqual(parts[index] == 1, rank(without.form) < rank(rows.form))
        self.assertEqual(sum(parts), rank(rows.form))
        for factor in [(7, 3), (1, 100), (4, 2)]:
            self.assertEqual(shares(rows.scaled(factor)), told)

    def test_samples(self):
        random = Random(1)
        for at in range(60):
            self.check(random_rows(random, at % 5, random.randint(0, 7)))

    def test_told_answers(self):
        self.assertEqual(shares(RowList(1, [((1,), 1), ((1,), 3)])), ((1, 4), (3, 4)))
        self.assertEqual(shares(RowList(2, [((0, 0), 5), ((2, 0), 1), ((0, 0), 1), ((0, 3), 7)])),
                         ((0, 1), (1, 1), (0, 1), (1, 1)))
        self.assertEqual(shares(RowList(3, [((1, 1, 1), 2), ((-2, -2, -2), 1)], bottom=5)), ((1, 3), (2, 3)))

    def test_lists_without_pairs_and_without_unknowns(self):
        self.assertEqual(shares(RowList(0, [])), ())
        self.assertEqual(shares(RowList(4, [])), ())
        self.assertEqual(shares(RowList(0, [((), 3), ((), 1)])), ((0, 1), (0, 1)))

    def test_sixty_pairs_with_long_numbers(self):
        random = Random(2)
        pairs = [(random_row(random, 10, BIG), random.randint(1, HUGE)) for _ in range(60)]
        told = shares(RowList(10, pairs, bottom=HUGE - 2))
        self.assertEqual(sum(number(share) for share in told), 10)


if __name__ == "__main__":
    unittest.main()
