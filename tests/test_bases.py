import unittest
from fractions import Fraction
from itertools import combinations, permutations
from random import Random

from fourcords.bases import basis_factor, basis_of, coordinates, missed_point
from fourcords.comparing import within
from fourcords.errors import NoBasis, SizesDiffer
from fourcords.judging import judge, rank
from fourcords.rowlists import RowList
from reference import BIG, HUGE, dot, number, numbers, random_rows, rank_of, sample_points


def samples(seed, count=40, most=7):
    random = Random(seed)
    return [random_rows(random, k % 5, random.randint(0, most), limit=3) for k in range(count)]


def bases(rows):
    r = rank_of([row for row, _ in rows], rows.size)
    for chosen in combinations(range(len(rows)), r):
        if rank_of([rows.pairs[k][0] for k in chosen], rows.size) == r:
            yield chosen


WIDE = [
    RowList(2, [((1, 0), 1), ((0, 1), 1), ((10 ** 6, 1), 1), ((1, 10 ** 6), 1)]),
    RowList(2, [((1, 1), HUGE), ((1, 0), 1), ((0, 1), 10 ** 60), ((BIG, BIG - 1), 1)], bottom=3),
    RowList(3, [((1, 0, 0), 1), ((0, 1, 0), 10 ** 20), ((0, 0, 1), 10 ** 40), ((1, 1, 1), 10 ** 60),
                ((1, 1, 0), 10 ** 80), ((2, 1, 1), 10 ** 100)]),
    RowList(3, [((BIG, 1, 0), 1), ((1, BIG, 0), HUGE), ((0, 0, 1), 1), ((0, 0, BIG), HUGE), ((1, 1, 1), 10 ** 50)]),
    RowList(1, [((1,), 1), ((0,), HUGE), ((-BIG,), 1), ((3,), 10 ** 24)]),
]


class Coordinates(unittest.TestCase):
    def test_every_row_is_the_sum(self):
        for rows in samples(1, most=6):
            for basis in bases(rows):
                for index in range(len(rows)):
                    told = coordinates(rows, basis, index)
                    multiples = numbers(told)
                    self.assertEqual(len(multiples), len(basis))
                    for k in range(rows.size):
                        total = sum((c * rows.pairs[at][0][k] for c, at in zip(multiples, basis)), Fraction(0))
                        self.assertEqual(total, rows.pairs[index][0][k])
                    self.assertEqual(coordinates(rows, list(basis), index), told)

    def test_told_answers(self):
        rows = RowList(2, [((1, 0), 1), ((0, 1), 1), ((1, 1), 1)])
        self.assertEqual(coordinates(rows, (0, 2), 1), ((-1, 1), 1))
        self.assertEqual(coordinates(rows, [0, 2], 2), ((0, 1), 1))
        self.assertEqual(coordinates(RowList(1, [((4,), 1), ((6,), 1)]), (0,), 1), ((3,), 2))
        self.assertEqual(coordinates(RowList(1, [((-4,), 1), ((6,), 1)]), (0,), 1), ((-3,), 2))
        self.assertEqual(coordinates(RowList(2, [((0, 0), 1)]), (), 0), ((), 1))
        self.assertEqual(coordinates(RowList(0, [((), 1)]), [], 0), ((), 1))

    def test_every_sequence_that_is_no_basis(self):
        for rows in samples(2, 24, most=4):
            right = set(bases(rows))
            for count in range(4):
                for chosen in permutations(list(range(len(rows))) * 2, count):
                    if chosen in right:
                        coordinates(rows, chosen, 0) if len(rows) else None
                    elif len(rows):
                        with self.assertRaises(NoBasis):
                            coordinates(rows, chosen, 0)

    def test_told_faults(self):
        rows = RowList(2, [((1, 0), 1), ((0, 1), 1), ((1, 1), 1), ((2, 0), 1), ((0, 0), 1)])
        for basis in ((1, 0), (0,), (), (0, 1, 2), (0, 0), (0, 0, 1), (0, 3), (0, 4), (2, 1), [3, 0], (0, 1, 2, 3, 4)):
            for index in range(5):
                with self.assertRaises(NoBasis):
                    coordinates(rows, basis, index)
        with self.assertRaises(NoBasis):
            coordinates(RowList(1, [((0,), 1)]), (0,), 0)

    def test_long_numbers(self):
        random = Random(3)
        rows = RowList(10, [(tuple(random.randint(-BIG, BIG) for _ in range(10)), random.randint(1, HUGE))
                            for _ in range(60)])
        basis = basis_of(rows)
        for index in (0, 59, basis[0]):
            multiples = numbers(coordinates(rows, basis, index))
            for k in range(10):
                self.assertEqual(sum(c * rows.pairs[at][0][k] for c, at in zip(multiples, basis)),
                                 rows.pairs[index][0][k])


class Basis(unittest.TestCase):
    def check(self, rows):
        basis = basis_of(rows)
        self.assertIs(type(basis), tuple)
        self.assertEqual(list(basis), sorted(set(basis)))
        r = rank_of([row for row, _ in rows], rows.size)
        self.assertEqual(len(basis), r)
        self.assertEqual(rank_of([rows.pairs[k][0] for k in basis], rows.size), r)
        for index, (_, weight) in enumerate(rows):
            for c, at in zip(numbers(coordinates(rows, basis, index)), basis):
                self.assertLessEqual(weight * c * c, 2 * rows.pairs[at][1])
        factor = basis_factor(rows)
        self.assertEqual(factor, (1 + 2 * r * (len(rows) - r), 1))
        self.assertIs(type(factor), tuple)
        picked = rows.picked(basis)
        for x in sample_points(4, rows.size, 15, 50):
            self.assertLessEqual(number(picked.form(x)), number(rows.form(x)))
            self.assertLessEqual(number(rows.form(x)), number(factor) * number(picked.form(x)))
        self.assertTrue(within(picked.form, rows.form, (1, 1), factor).holds)
        self.assertEqual(basis_of(rows), basis)

    def test_samples(self):
        for rows in samples(5, most=12):
            self.check(rows)

    def test_weights_that_are_far_apart(self):
        for rows in WIDE:
            self.check(rows)
        random = Random(6)
        for _ in range(20):
            pairs = [(tuple(random.choice([0, 1, random.randint(-10 ** random.randint(0, 12), BIG)]) for _ in range(4)),
                      random.randint(1, 10 ** random.randint(0, 119))) for _ in range(9)]
            self.check(RowList(4, pairs, bottom=random.randint(1, 5)))
            self.check(RowList(4, pairs[::-1]))

    def test_rank_zero(self):
        for rows in (RowList(0, []), RowList(3, []), RowList(2, [((0, 0), 1), ((0, 0), 5)]), RowList(0, [((), 1)] * 60)):
            self.assertEqual(basis_of(rows), ())
            self.assertEqual(basis_factor(rows), (1, 1))
            self.check(rows)

    def test_sixty_pairs(self):
        random = Random(7)
        self.check(random_rows(random, 10, 60, limit=2, weight=HUGE))
        self.check(random_rows(random, 5, 60, limit=BIG, weight=10))

    def test_told_answers(self):
        rows = RowList(2, [((1, 0), 1), ((0, 1), 1), ((1, 1), 1)])
        self.assertEqual(basis_factor(rows), (5, 1))
        self.assertEqual(basis_of(RowList(1, [((1,), 1), ((2,), 1), ((1,), 1)])), (1,))
        self.assertEqual(basis_of(RowList(1, [((1,), 9), ((2,), 1), ((1,), 1)])), (0,))
        self.assertEqual(basis_of(RowList(2, [((0, 0), 9), ((0, 2), 1), ((3, 1), 1)])), (1, 2))


class Missed(unittest.TestCase):
    def check(self, rows, others):
        told = missed_point(rows, others)
        r = rank_of([row for row, _ in others], rows.size)
        both = rank_of([row for row, _ in others] + [row for row, _ in rows], rows.size)
        self.assertEqual(told is None, both == r)
        if rank(others.form) < rank(rows.form):
            self.assertIsNotNone(told)
        if told is not None:
            self.assertIs(type(told), tuple)
            self.assertEqual(len(told), rows.size)
            self.assertEqual(number(others.form(told)), 0)
            self.assertTrue(all(dot(row, told) == 0 for row, _ in others))
            self.assertGreater(number(rows.form(told)), 0)
            self.assertTrue(any(dot(row, told) != 0 for row, _ in rows))
            self.assertFalse(judge(others.form.scaled((10 ** 9, 1)) - rows.form).holds)

    def test_samples(self):
        lists = samples(8, 50, most=4)
        for one in lists:
            for two in lists:
                if one.size == two.size:
                    self.check(one, two)

    def test_edges(self):
        rows = RowList(2, [((1, 0), 1), ((0, 0), 1)])
        for other, missed in ((rows, None), (RowList(2, []), True), (RowList(2, [((0, 0), 1)]), True),
                              (RowList(2, [((2, 0), 9)]), None), (RowList(2, [((0, 1), 9)]), True),
                              (RowList(2, [((1, 1), 1), ((1, -1), 1)]), None)):
            self.assertEqual(missed_point(rows, other) is None, missed is None)
            self.check(rows, other)
        self.assertIsNone(missed_point(RowList(2, []), rows))
        self.assertIsNone(missed_point(RowList(2, []), RowList(2, [])))
        self.assertIsNone(missed_point(RowList(0, [((), 1)]), RowList(0, [])))

    def test_sizes_differ(self):
        one, two = RowList(2, [((1, 0), 1)]), RowList(3, [])
        for a, b in ((one, two), (two, one)):
            with self.assertRaises(SizesDiffer) as caught:
                missed_point(a, b)
            self.assertEqual((caught.exception.one, caught.exception.two), (a.size, b.size))


if __name__ == "__main__":
    unittest.main()
