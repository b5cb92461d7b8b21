import unittest
from fractions import Fraction
from random import Random

from fourcords.judging import rank
from fourcords.rowlists import RowList
from fourcords.sparing import dependence, spared
from reference import BIG, HUGE, matrix, random_rows, rank_of, sample_points, square_of, dot


def independent(rows):
    squares = [square_of(row) for row, _ in rows.pairs]
    return rank_of(squares, rows.size * (rows.size + 1) // 2) == len(squares)


def is_part(part, whole):
    """Whether the one sequence is the other one with some of its items left out."""
    left = iter(whole)
    return all(any(item == other for other in left) for item in part)


def samples(seed, count=60):
    random = Random(seed)
    return [random_rows(random, k % 5, random.randint(0, 12), limit=2) for k in range(count)]


DEPENDENT = [
    RowList(2, [((0, 0), 3)]), RowList(2, [((1, 2), 1), ((0, 0), 3)], bottom=5), RowList(0, [((), 1)]),
    RowList(0, [((), 1), ((), 7)], bottom=3), RowList(2, [((1, 2), 1), ((1, 2), 5)]), RowList(1, [((1,), 1), ((2,), 1)]),
    RowList(2, [((1, 2), 1), ((-3, -6), 2)]), RowList(3, [((1, 0, 2), 1), ((0, 1, 0), 2), ((-1, 0, -2), 2)]),
    RowList(2, [((1, 0), 1), ((0, 1), 1), ((1, 1), 1), ((1, -1), 1)]), RowList(1, [((0,), 1)] * 60),
    RowList(2, [((1, 0), 1), ((0, 1), 1), ((1, 1), HUGE), ((1, -1), 1)], bottom=HUGE - 1),
    RowList(3, [((1, -1, 0), 1), ((0, 1, -1), 1), ((1, 0, -1), 1), ((1, 1, -2), 1)]),
]
INDEPENDENT = [
    RowList(0, []), RowList(3, []), RowList(1, [((5,), 4)], bottom=3), RowList(2, [((1, 0), 1), ((0, 1), 1), ((1, 1), 1)]),
    RowList(2, [((1, 1), 4), ((1, -1), 6)], bottom=8),
    RowList(3, [((1, -1, 0), 1), ((0, 1, -1), 2), ((1, 0, -1), 3)], bottom=4), RowList(2, [((2, 4), HUGE)], bottom=7),
]


class Dependence(unittest.TestCase):
    def check(self, rows):
        told = dependence(rows)
        self.assertEqual(told is None, independent(rows))
        if told is None:
            r = rank(rows.form)
            self.assertLessEqual(len(rows), r * (r + 1) // 2)
            return
        self.assertIs(type(told), tuple)
        self.assertEqual(len(told), len(rows))
        self.assertTrue(all(type(x) is int for x in told))
        self.assertTrue(any(told))
        for x in sample_points(1, rows.size, 30):
            self.assertEqual(sum(n * dot(row, x) ** 2 for n, (row, _) in zip(told, rows)), 0)
        squares = [square_of(row) for row, _ in rows]
        for column in zip(*squares):
            self.assertEqual(dot(column, told), 0)

    def test_samples(self):
        for rows in samples(2):
            self.check(rows)

    def test_edges(self):
        for rows in DEPENDENT:
            self.assertIsNotNone(dependence(rows))
            self.check(rows)
        for rows in INDEPENDENT:
            self.assertIsNone(dependence(rows))
            self.check(rows)

    def test_weights_do_not_matter(self):
        rows = DEPENDENT[8]
        other = RowList(2, [(row, 5 + at) for at, (row, _) in enumerate(rows)], bottom=7)
        self.assertEqual(dependence(rows), dependence(other))


class Spared(unittest.TestCase):
    def check(self, rows):
        told = spared(rows)
        self.assertIsInstance(told, RowList)
        self.assertEqual(told.size, rows.size)
        self.assertEqual(told.form, rows.form)
        self.assertEqual(matrix(told.form), matrix(rows.form))
        self.assertTrue(independent(told))
        self.assertIsNone(dependence(told))
        self.assertTrue(is_part([row for row, _ in told], [row for row, _ in rows]))
        r = rank(rows.form)
        self.assertLessEqual(len(told), r * (r + 1) // 2)
        self.assertTrue(all(weight >= 1 for _, weight in told))
        if independent(rows):
            self.assertTrue(told == rows)
        self.assertTrue(spared(told) == told)

    def test_samples(self):
        for rows in samples(3):
            self.check(rows)

    def test_edges(self):
        for rows in DEPENDENT + INDEPENDENT:
            self.check(rows)
        for rows in INDEPENDENT:
            self.assertTrue(spared(rows) == rows)
        self.assertTrue(spared(RowList(2, [((0, 0), 3)])) == RowList(2, []))
        self.assertTrue(spared(RowList(0, [((), 3)])) == RowList(0, []))
        self.assertTrue(spared(RowList(1, [((1,), 2), ((1,), 1)], bottom=4)) == RowList(1, [((1,), 3)], bottom=4))

    def test_two_pairs_may_be_emptied_at_once(self):
        self.check(RowList(2, [((1, 0), 2), ((0, 1), 2), ((1, 1), 1), ((1, -1), 1), ((2, 0), 1), ((0, 0), 1)]))
        self.check(RowList(1, [((1,), 4), ((2,), 1), ((2,), 1), ((1,), 4)]))

    def test_sixty_pairs(self):
        random = Random(4)
        for size, limit in ((10, 1), (4, 2), (1, 5), (7, 1)):
            self.check(random_rows(random, size, 60, limit=limit))
        rows = RowList(3, [(tuple(random.randint(-BIG, BIG) for _ in range(3)), random.randint(1, HUGE))
                           for _ in range(60)], bottom=HUGE)
        self.check(rows)
        told = spared(rows)
        self.assertEqual(len(told), 6)
        self.check(told + told.scaled((1, 3)))

    def test_fifty_five_independent_squares(self):
        random = Random(5)
        units = [tuple(1 if k in (i, j) else 0 for k in range(10)) for i in range(10) for j in range(i, 10)]
        rows = RowList(10, [(unit, random.randint(1, 9)) for unit in units], bottom=7)
        self.assertIsNone(dependence(rows))
        self.assertTrue(spared(rows) == rows)
        more = rows + RowList(10, [(tuple(range(10)), 3), ((1,) * 10, 2), ((0,) * 10, 1), (units[3], 1), (units[0], 5)])
        self.check(more)
        self.assertEqual(len(spared(more)), 55)

    def test_the_weights_add_up(self):
        rows = RowList(1, [((1,), 1), ((2,), 1), ((3,), 1)], bottom=2)
        told = spared(rows)
        self.assertEqual(len(told), 1)
        row, weight = told.pairs[0]
        self.assertEqual(Fraction(weight, told.bottom) * row[0] ** 2, 7)


if __name__ == "__main__":
    unittest.main()
