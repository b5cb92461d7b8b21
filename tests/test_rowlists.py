import unittest
from fractions import Fraction
from math import gcd
from random import Random

from fourcords.errors import BadRow, BadWeight, SizesDiffer
from fourcords.judging import free_points, is_squares, judge, rank
from fourcords.rowlists import RowList
from reference import (BIG, HUGE, as_lists, dot, has_list, matrix, number, random_rows, rank_of, sample_points, value)


def samples(seed, count=40):
    random = Random(seed)
    return [random_rows(random, k % 5, random.randint(0, 7)) for k in range(count)]


def weights(rows):
    return [Fraction(weight, rows.bottom) for _, weight in rows.pairs]


def row_tuples(rows):
    return [row for row, _ in rows.pairs]


class Making(unittest.TestCase):
    def test_fields(self):
        rows = RowList(2, [((1, 0), 2), ((2, 4), 4)], bottom=6)
        self.assertEqual((rows.size, rows.pairs, rows.bottom), (2, (((1, 0), 1), ((2, 4), 2)), 3))
        rows = RowList(2, [((1, 0), 2), ((2, 4), 4)])
        self.assertEqual((rows.pairs, rows.bottom), ((((1, 0), 2), ((2, 4), 4)), 1))
        rows = RowList(1, [((3,), 6)], bottom=3)
        self.assertEqual((rows.pairs, rows.bottom), ((((3,), 2),), 1))
        self.assertEqual(len(rows), 1)

    def test_a_list_without_pairs(self):
        for size in (0, 2, 10):
            rows = RowList(size, [], bottom=6)
            self.assertEqual((rows.size, rows.pairs, rows.bottom, len(rows), list(rows)), (size, (), 1, 0, []))
            self.assertEqual(matrix(rows.form), [[0] * size for _ in range(size)])
            self.assertEqual(rank(rows.form), 0)

    def test_rows_stay_as_they_are(self):
        pairs = (((0, 0), 3), ((2, -2), 1), ((0, 0), 3), ((2, -2), 5), ((-1, 1), 1))
        self.assertEqual(RowList(2, pairs).pairs, pairs)
        self.assertEqual(RowList(2, as_lists(pairs)).pairs, pairs)
        self.assertEqual(RowList(0, [((), 2), ((), 4)], bottom=2).pairs, (((), 1), ((), 2)))

    def test_copies(self):
        row = [1, 2]
        pair = [row, 3]
        pairs = [pair]
        rows = RowList(2, pairs)
        row[0] = 9
        pair[1] = 9
        pairs.append(pair)
        self.assertEqual(rows.pairs, (((1, 2), 3),))
        self.assertEqual(rows.form((1, 0)), (3, 1))
        self.assertFalse(has_list(rows.pairs))

    def test_bad_rows_and_weights(self):
        good = ((1, 2), 1)
        for pairs, kind, index in [
                ([((1,), 1)], BadRow, 0), ([((1, 2, 3), 1)], BadRow, 0), ([((), 1)], BadRow, 0),
                ([good, ((1, 2), 0)], BadWeight, 1), ([good, ((1, 2), -4)], BadWeight, 1),
                ([good, good, ((1,), 0)], BadRow, 2), ([good, ((1,), -1), ((1, 2), 0)], BadRow, 1),
                ([good, ((1, 2), 0), ((1,), 1)], BadWeight, 1), ([good, ((1,), 1), ((1, 2), 0)], BadRow, 1),
                ([[[1, 2], 0]], BadWeight, 0)]:
            with self.assertRaises(kind) as caught:
                RowList(2, pairs)
            self.assertIs(type(caught.exception), kind)
            self.assertEqual(caught.exception.index, index)
        with self.assertRaises(BadRow):
            RowList(0, [((1,), 1)])
        with self.assertRaises(BadRow):
            RowList(1, [((), 1)])

    def test_form(self):
        for rows in samples(1):
            for x in sample_points(2, rows.size, 5):
                expected = sum((w * dot(row, x) ** 2 for row, w in zip(row_tuples(rows), weights(rows))), Fraction(0))
                self.assertEqual(value(rows.form, x), expected)
            self.assertEqual(gcd(rows.bottom, *[weight for _, weight in rows.pairs]), 1)
            self.assertEqual(rows.form.size, rows.size)
            self.assertTrue(judge(rows.form).holds)
            self.assertTrue(is_squares(rows.form, [(weight, rows.bottom, row) for row, weight in rows]))
            self.assertEqual(rank(rows.form), rank_of(row_tuples(rows), rows.size))
            for point in free_points(rows.form):
                self.assertTrue(all(dot(row, point) == 0 for row in row_tuples(rows)))

    def test_sixty_pairs_of_size_ten_with_long_numbers(self):
        random = Random(3)
        pairs = [([random.randint(-BIG, BIG) for _ in range(10)], random.randint(1, HUGE)) for _ in range(60)]
        rows = RowList(10, pairs, bottom=HUGE)
        x = tuple(random.randint(-BIG, BIG) for _ in range(10))
        self.assertEqual(number(rows.form(x)), sum(Fraction(w, HUGE) * dot(row, x) ** 2 for row, w in pairs))
        self.assertEqual((len(rows), rank(rows.form)), (60, 10))
        again = RowList(rows.size, rows.pairs, bottom=rows.bottom)
        self.assertTrue(again == rows)
        self.assertEqual(again.form, rows.form)
        tall = rows.scaled(rows.form(x)).scaled(rows.form(x))
        self.assertEqual(number(tall.form(x)), number(rows.form(x)) ** 3)


class Operators(unittest.TestCase):
    def test_length_and_iteration(self):
        for rows in samples(4):
            self.assertEqual(len(rows), len(rows.pairs))
            self.assertEqual(tuple(rows), rows.pairs)
            self.assertEqual(tuple(rows), tuple(iter(rows)))

    def test_sums(self):
        lists = samples(5)
        for one in lists:
            for two in lists:
                if one.size == two.size:
                    both = one + two
                    self.assertEqual(row_tuples(both), row_tuples(one) + row_tuples(two))
                    self.assertEqual(weights(both), weights(one) + weights(two))
                    self.assertEqual(gcd(both.bottom, *[weight for _, weight in both]), 1)
                    self.assertEqual(both.form, one.form + two.form)

    def test_sums_of_other_sizes(self):
        one, two = RowList(1, [((1,), 1)]), RowList(2, [])
        for a, b in ((one, two), (two, one)):
            with self.assertRaises(SizesDiffer) as caught:
                a + b
            self.assertEqual((caught.exception.one, caught.exception.two), (a.size, b.size))

    def test_equality(self):
        one = RowList(2, [((1, 0), 2), ((0, 1), 3)], bottom=4)
        self.assertTrue(one == RowList(2, [([1, 0], 4), [(0, 1), 6]], bottom=8))
        self.assertFalse(one != RowList(2, [([1, 0], 4), [(0, 1), 6]], bottom=8))
        for other in (RowList(2, [((0, 1), 3), ((1, 0), 2)], bottom=4), RowList(2, [((1, 0), 2)], bottom=4),
                      RowList(2, [((1, 0), 2), ((0, 1), 3)]), RowList(2, [((1, 0), 2), ((0, -1), 3)], bottom=4),
                      RowList(2, [((1, 0), 2), ((0, 1), 5)], bottom=4), None, 2, "rows", one.pairs, one.form):
            self.assertIs(one == other, False)
            self.assertIs(one != other, True)
        self.assertFalse(RowList(1, []) == RowList(2, []))
        self.assertTrue(RowList(2, []) == RowList(2, (), bottom=5))

    def test_scaled(self):
        for rows in samples(6):
            for factor in ((1, 1), (2, 6), (9, 4), [6, 3], (HUGE, 7)):
                scaled = rows.scaled(factor)
                self.assertEqual(row_tuples(scaled), row_tuples(rows))
                self.assertEqual(weights(scaled), [Fraction(*factor) * w for w in weights(rows)])
                self.assertEqual(gcd(scaled.bottom, *[weight for _, weight in scaled]), 1)
                self.assertEqual(scaled.form, rows.form.scaled(factor))
                self.assertEqual(scaled.size, rows.size)

    def test_picked(self):
        random = Random(7)
        for rows in samples(8):
            indexes = [random.randrange(len(rows)) for _ in range(6)] if len(rows) else []
            picked = rows.picked(indexes)
            self.assertEqual(row_tuples(picked), [rows.pairs[k][0] for k in indexes])
            self.assertEqual(weights(picked), [weights(rows)[k] for k in indexes])
            self.assertEqual(gcd(picked.bottom, *[weight for _, weight in picked]), 1)
            self.assertTrue(picked == rows.picked(tuple(indexes)))
            self.assertTrue(rows.picked(range(len(rows))) == rows)
            self.assertTrue(rows.picked(()) == RowList(rows.size, []))
        rows = RowList(1, [((1,), 1), ((2,), 2)], bottom=2)
        self.assertEqual((rows.picked((1,)).pairs, rows.picked((1,)).bottom), ((((2,), 1),), 1))
        self.assertEqual(rows.picked((1, 0, 1, 1)).pairs, (((2,), 2), ((1,), 1), ((2,), 2), ((2,), 2)))
        self.assertEqual(len(rows.picked([1] * 60)), 60)

    def test_nothing_changes(self):
        rows = RowList(2, [((1, 0), 2), ((0, 1), 3)], bottom=4)
        indexes = [1, 0]
        rows.picked(indexes), rows.scaled((2, 3)), rows + rows, rows == rows, list(rows)
        self.assertEqual(indexes, [1, 0])
        self.assertEqual((rows.size, rows.pairs, rows.bottom), (2, (((1, 0), 2), ((0, 1), 3)), 4))


if __name__ == "__main__":
    unittest.main()
