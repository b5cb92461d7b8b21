import unittest
from fractions import Fraction
from random import Random

from fourcords.comparing import is_within, within
from fourcords.errors import SizesDiffer
from fourcords.forms import Form
from fourcords.judging import is_squares, judge
from reference import (HUGE, form_of_squares, matrix, nonnegative, number, random_form, sample_forms, sample_points,
                       value)

FACTORS = [(0, 1), (0, 5), (1, 1), (2, 2), (1, 2), (3, 1), (-1, 1), (-4, 6), (30, 1)]


def pairs_of_forms(seed):
    random = Random(seed)
    forms = sample_forms(seed, 24, 3) + [random_form(random, k % 4, 3) for k in range(12)]
    for one in forms:
        for two in forms:
            if one.size == two.size:
                yield one, two


class Comparing(unittest.TestCase):
    def check(self, one, two, low, high):
        told = within(one, two, low, high)
        under = nonnegative(two - one.scaled(low))
        over = nonnegative(one.scaled(high) - two)
        self.assertIs(told.holds, under and over)
        if told.holds:
            self.assertEqual((told.side, told.point), (None, None))
            self.assertEqual(told.under, judge(two - one.scaled(low)).squares)
            self.assertEqual(told.over, judge(one.scaled(high) - two).squares)
            self.assertIs(is_within(one, two, low, high, told.under, told.over), True)
            a, b = matrix(one), matrix(two)
            self.assertEqual(form_of_squares(one.size, told.under),
                             [[y - Fraction(*low) * x for x, y in zip(*rows)] for rows in zip(a, b)])
            self.assertEqual(form_of_squares(one.size, told.over),
                             [[Fraction(*high) * x - y for x, y in zip(*rows)] for rows in zip(a, b)])
        else:
            self.assertEqual((told.under, told.over), ((), ()))
            self.assertEqual(told.side, "over" if under else "under")
            self.assertIs(type(told.point), tuple)
            self.assertEqual(len(told.point), one.size)
            x, y = value(one, told.point), value(two, told.point)
            if told.side == "under":
                self.assertLess(y, Fraction(*low) * x)
            else:
                self.assertGreater(y, Fraction(*high) * x)
        return told

    def test_samples(self):
        random = Random(1)
        seen = {}
        for one, two in pairs_of_forms(2):
            for _ in range(2):
                low, high = random.choice(FACTORS), random.choice(FACTORS)
                told = self.check(one, two, low, high)
                seen[told.holds, told.side] = seen.get((told.holds, told.side), 0) + 1
        self.assertGreater(min(seen.values()), 30)
        self.assertEqual(len(seen), 3)

    def test_told_answers(self):
        one, three = Form([[1]]), Form([[3]])
        held = within(one, three, (1, 1), (4, 1))
        self.assertEqual((held.holds, held.under, held.over), (True, ((2, 1, (1,)),), ((1, 1, (1,)),)))
        self.assertEqual(within(one, three, (1, 1), (2, 1)).side, "over")
        self.assertEqual(within(one, three, (4, 1), (5, 1)).side, "under")

    def test_equal_factors(self):
        one, three = Form([[1, 0], [0, 1]]), Form([[3, 0], [0, 3]])
        held = self.check(one, three, (3, 1), (6, 2))
        self.assertEqual((held.holds, held.under, held.over), (True, (), ()))
        self.assertFalse(self.check(one, Form([[3, 0], [0, 4]]), (3, 1), (3, 1)).holds)

    def test_zero_and_negative_factors(self):
        one, two = Form([[1, 0], [0, 0]]), Form([[0, 0], [0, 1]])
        self.assertEqual(self.check(one, two, (0, 1), (9, 1)).side, "over")
        self.assertTrue(self.check(two.scaled((-2, 1)), two, (-1, 4), (-1, 1)).holds)
        self.assertTrue(self.check(one, one.scaled((-2, 1)), (-3, 1), (-1, 1)).holds)
        self.assertTrue(self.check(one, Form.zero(2), (0, 5), (0, 1)).holds)
        self.assertTrue(self.check(one, Form.zero(2), (-1, 1), (0, 3)).holds)

    def test_factors_exchanged(self):
        one, two = Form([[2, 1], [1, 2]]), Form([[4, 1], [1, 4]])
        self.assertTrue(self.check(one, two, (1, 1), (3, 1)).holds)
        told = self.check(one, two, (3, 1), (1, 1))
        self.assertEqual((told.holds, told.side), (False, "under"))

    def test_under_is_told_where_both_fail(self):
        one = Form([[1, 0], [0, 1]])
        two = Form([[9, 0], [0, 0]])
        told = self.check(one, two, (1, 1), (2, 1))
        self.assertEqual((told.holds, told.side), (False, "under"))

    def test_size_zero_and_size_ten(self):
        nothing = Form.zero(0)
        held = self.check(nothing, nothing, (5, 1), (-5, 1))
        self.assertEqual((held.holds, held.under, held.over), (True, (), ()))
        random = Random(3)
        form = Form.zero(10)
        for _ in range(12):
            form = form + Form.square([random.randint(-10 ** 12, 10 ** 12) for _ in range(10)])
        other = form.scaled((HUGE, 7)) + Form.square([1] * 10)
        held = within(form, other, (HUGE, 7), (HUGE, 6))
        self.assertTrue(held.holds)
        self.assertEqual(held.under, ((1, 1, (1,) * 10),))
        self.assertTrue(is_within(form, other, (HUGE, 7), (HUGE, 6), held.under, held.over))
        told = within(form, other, (HUGE, 7), (HUGE, 7))
        self.assertEqual(told.side, "over")
        self.assertGreater(number(other(told.point)), Fraction(HUGE, 7) * number(form(told.point)))

    def test_sizes_differ(self):
        one, two = Form.zero(1), Form.zero(2)
        for a, b in ((one, two), (two, one)):
            for ask in (lambda: within(a, b, (0, 1), (1, 1)), lambda: is_within(a, b, (0, 1), (1, 1), (), ())):
                with self.assertRaises(SizesDiffer) as caught:
                    ask()
                self.assertEqual((caught.exception.one, caught.exception.two), (a.size, b.size))


class Shown(unittest.TestCase):
    ONE = Form([[2, 1], [1, 2]])
    TWO = Form([[4, 1], [1, 4]])
    ASK = (ONE, TWO, (1, 1), (3, 1))

    def test_other_squares_than_the_echelon_squares(self):
        # two - one is diagonal 2, 2; three times one less two is 2, 2, 2, 2.
        self.assertIs(is_within(*self.ASK, [(2, 1, (1, 0)), (2, 1, (0, 1))], [(2, 1, (1, 1))]), True)
        self.assertIs(is_within(*self.ASK, [[1, 1, [1, 1]], [1, 1, [1, -1]]], [[2, 4, [2, 2]], [1, 1, [0, 0]]]), True)

    def test_spoilt_squares(self):
        held = within(*self.ASK)
        self.assertIs(is_within(*self.ASK, held.under, held.over), True)
        self.assertIs(is_within(*self.ASK, held.over, held.under), False)
        for at, (top, bottom, row) in enumerate(held.under):
            for wrong in ((top + 1, bottom, row), (top, bottom + 1, row), (-top, -bottom, row), (top, bottom, row + (0,)),
                          (top, bottom, (row[0] + 1, row[1])), (0, bottom, row), (top, 0, row)):
                spoilt = held.under[:at] + (wrong,) + held.under[at + 1:]
                self.assertIs(is_within(*self.ASK, spoilt, held.over), False)
        self.assertIs(is_within(*self.ASK, held.under, ()), False)
        self.assertIs(is_within(*self.ASK, (), held.over), False)
        self.assertIs(is_within(*self.ASK, held.under + held.under, held.over), False)
        self.assertIs(is_within(*self.ASK, held.under, held.over + ((1, 9, (0, 1)),)), False)

    def test_factors_not_in_lowest_terms(self):
        held = within(self.ONE, self.TWO, [2, 2], [6, 2])
        right = within(*self.ASK)
        self.assertEqual((held.under, held.over), (right.under, right.over))
        self.assertIs(is_within(self.ONE, self.TWO, [2, 2], [6, 2], held.under, held.over), True)
        self.assertIs(is_within(self.ONE, self.TWO, (1, 1), (4, 1), held.under, held.over), False)
        self.assertIs(is_within(self.ONE, self.TWO, (0, 1), (3, 1), held.under, held.over), False)


class Products(unittest.TestCase):
    """Point 24."""

    def test_factors_multiply(self):
        random = Random(4)
        seen = 0
        factors = [(0, 1), (1, 5), (1, 1), (3, 2), (4, 1), (9, 1)]
        forms = sample_forms(5, 60, 3)
        for one in forms:
            for two in forms:
                if one.size != two.size:
                    continue
                three = random.choice([form for form in forms if form.size == one.size])
                low, high, least, most = [random.choice(factors) for _ in range(4)]
                if within(one, two, low, high).holds and within(two, three, least, most).holds:
                    seen += 1
                    whole_low = (low[0] * least[0], low[1] * least[1])
                    whole_high = (high[0] * most[0], high[1] * most[1])
                    self.assertTrue(within(one, three, whole_low, whole_high).holds)
        self.assertGreater(seen, 30)

    def test_they_are_tight(self):
        one, two, three = Form([[1, 0], [0, 1]]), Form([[2, 0], [0, 3]]), Form([[8, 0], [0, 15]])
        self.assertTrue(within(one, two, (2, 1), (3, 1)).holds and within(two, three, (4, 1), (5, 1)).holds)
        self.assertTrue(within(one, three, (8, 1), (15, 1)).holds)
        self.assertFalse(within(one, three, (9, 1), (15, 1)).holds)
        self.assertFalse(within(one, three, (8, 1), (14, 1)).holds)
        for x in sample_points(6, 2):
            self.assertLessEqual(8 * number(one(x)), number(three(x)))
        self.assertTrue(is_squares(Form.zero(2), within(one, two, (2, 1), (2, 1)).under))


if __name__ == "__main__":
    unittest.main()
