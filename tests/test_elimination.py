import unittest
from math import gcd
from random import Random

from fourcords.elimination import kernel, pivoted, primitive, reduced, transposed
from reference import determinant_of, dot, echelon, random_row


def samples(seed, count=200):
    random = Random(seed)
    for k in range(count):
        width, height = random.randint(0, 5), random.randint(0, 5)
        rows = [random_row(random, width, 2) for _ in range(height)]
        yield width, [random.choice(rows) if random.randint(0, 3) == 0 else row for row in rows]


class Elimination(unittest.TestCase):
    def test_reduced(self):
        turned = 0
        for width, rows in samples(1):
            pivots, kept, scale = reduced(rows, width)
            expected, columns = echelon(rows, width)
            self.assertEqual(pivots, columns)
            self.assertNotEqual(scale, 0)
            turned += scale < 0
            self.assertEqual([list(row) for row in kept], [[scale * x for x in row] for row in expected])
            if len(rows) == width == len(pivots):
                self.assertEqual(scale, determinant_of([list(row) for row in rows]))
        self.assertGreater(turned, 20)

    def test_a_narrower_width_carries_the_other_columns_along(self):
        pivots, kept, scale = reduced([[2, 1, 8], [1, 2, 7]], 2)
        self.assertEqual((pivots, [row[2] for row in kept], scale), ([0, 1], [9, 6], 3))

    def test_kernel(self):
        for width, rows in samples(2):
            points = kernel(rows, width)
            free = [k for k in range(width) if k not in echelon(rows, width)[1]]
            self.assertEqual(len(points), len(free))
            for column, point in zip(free, points):
                self.assertTrue(all(dot(row, point) == 0 for row in rows))
                self.assertGreater(point[column], 0)
                self.assertTrue(all(point[k] == 0 for k in free if k != column))
                self.assertEqual(gcd(*point), 1)
        self.assertEqual(kernel([], 2), [(1, 0), (0, 1)])

    def test_an_exchange_of_pivots(self):
        rows = [[2, 1, 8], [1, 2, 7]]
        pivots, kept, scale = reduced(rows, 3)
        kept = pivoted(kept, scale, 0, 2)
        self.assertEqual([[row[k] for row in kept] for k in (1, 2)], [[0, kept[0][2]], [kept[0][2], 0]])

    def test_small_helpers(self):
        self.assertEqual(primitive((4, -6, 0)), (2, -3, 0))
        self.assertEqual(transposed([(1, 2, 3), (4, 5, 6)], 3), [[1, 4], [2, 5], [3, 6]])
        self.assertEqual(transposed([], 2), [[], []])


if __name__ == "__main__":
    unittest.main()
