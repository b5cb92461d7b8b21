import unittest
from fractions import Fraction
from random import Random

from fourcords.errors import BelowZero, SizesDiffer
from fourcords.factors import greatest_low, least_high
from fourcords.forms import Form
from fourcords.judging import free_points, judge, rank
from reference import HUGE, nonnegative, number, sample_forms, value

BOTTOMS = (1, 2, 7, 1000, 1_000_000)


def holds_over(one, two, p, bottom):
    return judge(one.scaled((p, bottom)) - two).holds


def holds_under(one, two, p, bottom):
    return judge(two - one.scaled((p, bottom))).holds


class Factors(unittest.TestCase):
    def check(self, one, two, bottom):
        high = least_high(one, two, bottom=bottom)
        missed = any(value(two, x) != 0 for x in free_points(one))
        self.assertEqual(high is None, missed)
        if high is not None:
            self.assertIs(type(high), int)
            self.assertGreaterEqual(high, 0)
            self.assertTrue(holds_over(one, two, high, bottom))
            self.assertTrue(high == 0 or not holds_over(one, two, high - 1, bottom))
        low = greatest_low(one, two, bottom=bottom)
        self.assertEqual(low is None, one == Form.zero(one.size))
        if low is not None:
            self.assertIs(type(low), int)
            self.assertTrue(holds_under(one, two, low, bottom))
            self.assertFalse(holds_under(one, two, low + 1, bottom))
        return low, high

    def test_samples(self):
        forms = sample_forms(1, 35)
        nones = [0, 0]
        for at, one in enumerate(forms):
            for two in forms:
                if one.size == two.size:
                    low, high = self.check(one, two, BOTTOMS[at % 5])
                    nones[0] += low is None
                    nones[1] += high is None
        self.assertGreater(min(nones), 10)

    def test_whole_numbers_by_hand(self):
        one, three = Form([[1]]), Form([[3]])
        self.assertEqual([least_high(one, three, bottom=2), greatest_low(Form([[2]]), three, bottom=3)], [6, 4])
        for bottom in BOTTOMS:
            self.assertEqual(least_high(one, three, bottom=bottom), 3 * bottom)
            self.assertEqual(greatest_low(one, three, bottom=bottom), 3 * bottom)
            self.assertEqual(least_high(three, one, bottom=bottom), -(-bottom // 3))
            self.assertEqual(greatest_low(three, one, bottom=bottom), bottom // 3)
        one, two = Form([[1, 0], [0, 1]]), Form([[2, 0], [0, 5]])
        self.assertEqual([greatest_low(one, two, bottom=1), least_high(one, two, bottom=1)], [2, 5])
        # The greatest and the least factor of this pair are (3 + 5 ** (1/2)) / 2 and (3 - 5 ** (1/2)) / 2.
        two = Form([[1, 1], [1, 2]])
        self.assertEqual([greatest_low(one, two, bottom=10 ** 6), least_high(one, two, bottom=10 ** 6)],
                         [381966, 2618034])

    def test_rank_zero(self):
        for size in (0, 1, 3):
            zero = Form.zero(size)
            self.assertEqual(least_high(zero, zero, bottom=5), 0)
            self.assertIsNone(greatest_low(zero, zero, bottom=5))
        one, zero = Form([[1, 0], [0, 0]]), Form.zero(2)
        self.assertIsNone(least_high(zero, one, bottom=1))
        self.assertIsNone(greatest_low(zero, one, bottom=1))
        self.assertEqual(least_high(one, zero, bottom=1_000_000), 0)
        self.assertEqual(greatest_low(one, zero, bottom=1_000_000), 0)

    def test_none_only_for_points_that_are_missed(self):
        one, two = Form([[1, 0], [0, 0]]), Form([[0, 0], [0, 1]])
        both = Form([[1, 0], [0, 1]])
        self.assertIsNone(least_high(one, two, bottom=1))
        self.assertEqual(greatest_low(one, two, bottom=1), 0)
        self.assertIsNone(least_high(one, both, bottom=1))
        self.assertEqual(greatest_low(one, both, bottom=9), 9)
        self.assertEqual(least_high(both, one, bottom=9), 9)
        self.assertEqual(greatest_low(both, one, bottom=9), 0)

    def test_several_equal_factors(self):
        random = Random(2)
        for form in sample_forms(3, 20):
            if rank(form) > 0:
                factor = (random.randint(1, 50), random.randint(1, 9))
                exact = Fraction(*factor) * 12
                self.assertEqual(least_high(form, form.scaled(factor), bottom=12), -(-exact // 1))
                self.assertEqual(greatest_low(form, form.scaled(factor), bottom=12), exact // 1)

    def test_long_numbers(self):
        random = Random(4)
        one, two = Form.zero(10), Form.zero(10)
        for _ in range(11):
            one = one + Form.square([random.randint(-9, 9) for _ in range(10)])
            two = two + Form.square([random.randint(-10 ** 12, 10 ** 12) for _ in range(10)])
        self.check(one.scaled((1, HUGE)), two.scaled((HUGE, 1)), 1_000_000)
        self.check(two.scaled((HUGE, 1)), one.scaled((1, HUGE)), 1_000_000)
        self.check(one, one.scaled((HUGE, 1)) + Form.square([1] * 10), 1)

    def test_errors_in_their_order(self):
        bad = Form([[1, 2], [2, 1]])
        worse = Form([[-1]])
        for ask in (least_high, greatest_low):
            for one, two in ((bad, worse), (worse, bad), (Form.zero(1), Form.zero(2)), (Form.zero(2), Form.zero(0))):
                with self.assertRaises(SizesDiffer) as caught:
                    ask(one, two, bottom=1)
                self.assertEqual((caught.exception.one, caught.exception.two), (one.size, two.size))
            good = Form([[1, 0], [0, 1]])
            only = Form([[1, 0], [0, -1]])
            for one, two, wrong in ((bad, good, bad), (good, bad, bad), (Form.zero(2), bad, bad), (only, bad, only),
                                    (bad, only, bad), (bad, Form.zero(2), bad), (Form([[1, 0], [0, 0]]), only, only)):
                with self.assertRaises(BelowZero) as caught:
                    ask(one, two, bottom=1)
                self.assertLess(value(wrong, caught.exception.point), 0)
                self.assertLess(number(wrong(caught.exception.point)), 0)

    def test_the_first_form_goes_first(self):
        # Where one form is below 0 the other one is above it, so the point tells which form was meant.
        one, two = Form([[1, 0], [0, -1]]), Form([[-1, 0], [0, 1]])
        for ask in (least_high, greatest_low):
            for a, b in ((one, two), (two, one)):
                with self.assertRaises(BelowZero) as caught:
                    ask(a, b, bottom=3)
                self.assertLess(value(a, caught.exception.point), 0)
                self.assertGreater(value(b, caught.exception.point), 0)
        self.assertFalse(nonnegative(one) or nonnegative(two))


if __name__ == "__main__":
    unittest.main()
