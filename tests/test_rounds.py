import unittest
from fractions import Fraction
from random import Random

from fourcords.comparing import within
from fourcords.errors import BelowZero, NoSolution, NotWithin, SizesDiffer
from fourcords.forms import Form
from fourcords.grades import grade_factor
from fourcords.inverses import solve
from fourcords.rounds import Stop, rounds, rounds_needed
from fourcords.thinning import thinned
from fourcords.vectors import bound_at, vector_product
from fourcords.webs import Web
from reference import (BIG, HUGE, as_fraction, as_lists, at_row, dot, inverse_of, matrix, number, numbers,
                       random_row, random_rows, sample_forms, value)

FORM = Form([[2, 1, 0], [1, 2, 0], [0, 0, 0]])
HELPER = Form([[3, 1, 0], [1, 3, 0], [0, 0, 0]])
BELOW = Form([[1, 2, 0], [2, 1, 0], [0, 0, 0]])
DEMAND = ((2, 4, 0), 6)
LINE = Form([[1]])


def fields(stop):
    return stop.heights, stop.residual, stop.low, stop.high


def product(m, x):
    return [dot(row, x) for row in m]


def samples(seed):
    """Forms, helpers and factors that fit, and a demand and a start."""
    random = Random(seed)
    found = []
    for at, form in enumerate(sample_forms(seed + 1, 20)):
        found.append((form, form, (1, 1)))
        found.append((form, form.scaled((3, 2)), (12, 8)))
        more = form.scaled((random.randint(0, 4), 5))
        found.append((form, form + more, as_fraction(1 + Fraction(random.randint(4, 9), 5), 3)))
    for grade, size, count in [(2, 1, 4), (2, 2, 7), (2, 3, 9), (3, 2, 6), (4, 1, 5)]:
        rows = random_rows(random, size, count)
        found.append((rows.form, thinned(rows, grade=grade).form, grade_factor(grade)))
    for form, helper, factor in found:
        demand = form.applied((random_row(random, form.size, 5), random.randint(1, 4)))
        start = random_row(random, form.size, 9), random.randint(1, 4)
        yield form, helper, factor, demand, random.choice([None, start])


class Stops(unittest.TestCase):
    def test_told_answers(self):
        stops = list(rounds(LINE, Form([[2]]), (2, 1), ((1,), 1), count=1))
        self.assertEqual([fields(stop) for stop in stops],
                         [(((0,), 1), ((1,), 1), (1, 2), (1, 1)), (((2,), 3), ((1,), 3), (17, 18), (1, 1))])
        stops = list(rounds(LINE, LINE, (1, 1), ((3,), 2), count=2, start=((4,), 8)))
        self.assertEqual([fields(stop) for stop in stops],
                         [(((1,), 2), ((1,), 1), (9, 4), (9, 4))] + 2 * [(((3,), 2), ((0,), 1), (9, 4), (9, 4))])

    def test_every_stop_reckoned_anew(self):
        for form, helper, factor, demand, start in samples(1):
            m, turned, f = matrix(form), inverse_of(matrix(helper)), Fraction(*factor)
            d = numbers(demand)
            v = [Fraction(0)] * form.size if start is None else [Fraction(x, start[1]) for x in start[0]]
            stops = list(rounds(form, helper, factor, demand, count=3, start=start))
            self.assertEqual(len(stops), 4)
            for stop in stops:
                self.assertIsInstance(stop, Stop)
                residual = [x - y for x, y in zip(d, product(m, v))]
                h, b = at_row(turned, residual), 2 * dot(d, v) - value(form, v)
                self.assertEqual((numbers(stop.heights), numbers(stop.residual)), (v, residual))
                self.assertEqual((number(stop.low), number(stop.high)), (b + h, b + f * h))
                v = [x + 2 * f / (f + 1) * y for x, y in zip(v, product(turned, residual))]

    def test_indexes_that_are_no_lead_stay(self):
        start = ((1, 5, -7), 3)
        stops = list(rounds(FORM, HELPER, (2, 1), DEMAND, count=3, start=start))
        self.assertEqual([numbers(stop.heights)[2] for stop in stops], [Fraction(-7, 3)] * 4)
        ring = Web.ring(4)
        stops = list(rounds(ring.form, ring.form, (2, 1), ((1, 0, -1, 0), 1), count=2, start=((0, 0, 0, 5), 1)))
        self.assertEqual([numbers(stop.heights)[3] for stop in stops], [5, 5, 5])

    def test_the_number_of_stops(self):
        for count in (0, 1, 2, 7, 20):
            self.assertEqual(len(list(rounds(FORM, HELPER, (2, 1), DEMAND, count=count))), count + 1)
            # Where nothing is left to do.
            best = solve(FORM, DEMAND)
            stops = list(rounds(FORM, HELPER, (2, 1), DEMAND, count=count, start=best))
            self.assertEqual([stop.heights for stop in stops], [best] * (count + 1))
            self.assertEqual([stop.residual for stop in stops], [((0, 0, 0), 1)] * (count + 1))
            loss = vector_product(((1, 2, 0), 3), best)
            self.assertEqual([(stop.low, stop.high) for stop in stops], [(loss, loss)] * (count + 1))

    def test_no_start_is_the_start_at_zeros(self):
        one = list(rounds(FORM, HELPER, (2, 1), DEMAND, count=3))
        two = list(rounds(FORM, HELPER, (2, 1), DEMAND, count=3, start=None))
        three = list(rounds(FORM, HELPER, (2, 1), DEMAND, count=3, start=([0, 0, 0], 9)))
        self.assertEqual(one[0].heights, ((0, 0, 0), 1))
        self.assertEqual([fields(stop) for stop in one], [fields(stop) for stop in two])
        self.assertEqual([fields(stop) for stop in one], [fields(stop) for stop in three])

    def test_size_zero_and_rank_zero(self):
        for size in (0, 3):
            form = Form.zero(size)
            for start in (None, ((5,) * size, 10)):
                stops = list(rounds(form, form, (7, 2), ((0,) * size, 4), count=2, start=start))
                held = ((0,) * size, 1) if start is None or size == 0 else ((1,) * size, 2)
                self.assertEqual([fields(stop) for stop in stops], [(held, ((0,) * size, 1), (0, 1), (0, 1))] * 3)

    def test_lists_and_later_changes(self):
        given = [[29, 3], [[2, 4, 0], 6], [[1, 1, 1], 2]]
        expected = [fields(stop) for stop in rounds(FORM, HELPER, (29, 3), DEMAND, count=2, start=((1, 1, 1), 2))]
        factor, demand, start = as_lists(given)
        told = rounds(FORM, HELPER, factor, demand, count=2, start=start)
        stops = [next(told)]
        factor[0], demand[0][0], demand[1], start[0][2], start[1] = 90, 77, 5, 4, 9
        demand[0].append(8)
        stops += list(told)
        self.assertEqual([fields(stop) for stop in stops], expected)
        # Before the first item is asked for, nothing is looked at.
        factor, demand, start = as_lists(given)
        told = rounds(FORM, HELPER, factor, demand, count=2, start=start)
        demand[0][:], start[0][:], factor[0] = [4, 8, 0], [0, 0, 0], 6
        self.assertEqual([fields(stop) for stop in told],
                         [fields(stop) for stop in rounds(FORM, HELPER, (2, 1), ((2, 4, 0), 3), count=2)])

    def test_long_numbers(self):
        random = Random(2)
        web = Web(10, [(one, two, random.randint(1, HUGE)) for one in range(10) for two in range(one)], bottom=HUGE - 2)
        demand = ((BIG, *[0] * 8, -BIG), 7)
        stops = list(rounds(web.form, web.form.scaled((9, 5)), (2, 1), demand, count=20))
        loss = number(vector_product(demand, solve(web.form, demand)))
        self.assertTrue(number(stops[20].low) < loss < number(stops[20].high))


class Bounds(unittest.TestCase):
    """Point 69."""

    def test_samples(self):
        for form, helper, factor, demand, start in samples(3):
            loss = number(vector_product(demand, solve(form, demand)))
            shrink = (Fraction(factor[0] - factor[1], factor[0] + factor[1])) ** 2
            before = None
            for stop in rounds(form, helper, factor, demand, count=3, start=start):
                self.assertTrue(number(stop.low) <= loss <= number(stop.high))
                error = loss - number(bound_at(form, demand, stop.heights))
                self.assertGreaterEqual(error, 0)
                self.assertEqual(error == 0, not any(stop.residual[0]))
                if before is not None:
                    self.assertLessEqual(error, shrink * before)
                before = error

    def test_factor_1_leaves_no_error(self):
        for form in sample_forms(4, 15):
            demand = form.applied(((3,) * form.size, 7))
            stops = list(rounds(form, form, (5, 5), demand, count=1, start=((-2,) * form.size, 3)))
            self.assertEqual(stops[1].residual, ((0,) * form.size, 1))
            self.assertEqual(stops[1].low, stops[1].high)
            self.assertEqual(stops[1].low, vector_product(demand, solve(form, demand)))

    def test_the_rounds_that_are_needed_are_enough(self):
        random = Random(5)
        for grade in (2, 3):
            rows = random_rows(random, 2, 8)
            form, factor = rows.form, grade_factor(grade)
            demand = form.applied(((5, -3), 2))
            stops = list(rounds(form, thinned(rows, grade=grade).form, factor, demand,
                                count=rounds_needed(factor, (1, 50))))
            loss = number(vector_product(demand, solve(form, demand)))
            errors = [loss - number(bound_at(form, demand, stop.heights)) for stop in stops]
            self.assertGreater(errors[0], 0)
            self.assertLessEqual(errors[-1], errors[0] / 50)


class Faults(unittest.TestCase):
    def check(self, error, fields, *question):
        for count in (0, 3):
            told = rounds(*question, count=count)
            with self.assertRaises(error) as caught:
                next(told)
            self.assertEqual({name: getattr(caught.exception, name) for name in fields}, fields)
            self.assertEqual(list(told), [])
        return caught.exception

    def test_below_zero(self):
        # Everything else is wrong, too.
        for helper, factor, demand in [(LINE, (1, 1), ((1, 1, 1), 1)), (BELOW, (1, 1), ((0, 0, 0), 1)),
                                       (HELPER, (1, 1), ((1, 1, 1), 1))]:
            error = self.check(BelowZero, {}, BELOW, helper, factor, demand)
            self.assertLess(value(BELOW, error.point), 0)

    def test_sizes_differ(self):
        # The helper is not within the factors and is not nonnegative, and there is no solution.
        self.check(SizesDiffer, {"one": 3, "two": 1}, FORM, Form([[-1]]), (1, 1), ((1, 1, 1), 1))
        self.check(SizesDiffer, {"one": 3, "two": 0}, FORM, Form([]), (9, 1), DEMAND)
        self.check(SizesDiffer, {"one": 0, "two": 1}, Form([]), LINE, (9, 1), ((), 1))

    def test_not_within(self):
        for helper, factor, side in [(FORM.scaled((99, 100)), (2, 1), "under"), (FORM.scaled((2, 1)), (199, 100), "over"),
                                     (HELPER - Form.square((0, 3, 0)), (1, 1), "under"), (BELOW, (5, 1), "under"),
                                     (HELPER + Form.square((0, 0, 1)), (1000, 1), "over"), (HELPER, (4, 3), "over")]:
            # There is no solution, either.
            error = self.check(NotWithin, {"side": side}, FORM, helper, factor, ((1, 1, 1), 1))
            one, two = value(FORM, error.point), value(helper, error.point)
            self.assertTrue(two < one if side == "under" else two > Fraction(*factor) * one)
            self.assertEqual(side, within(FORM, helper, (1, 1), factor).side)

    def test_no_solution(self):
        self.check(NoSolution, {"point": (0, 0, 1)}, FORM, HELPER, (2, 1), ((1, 2, 3), 6))
        web = Web(4, [(0, 3, 1), (1, 2, 1)])
        self.check(NoSolution, {"point": (0, 1, 1, 0)}, web.form, web.form, (1, 1), ((1, 1, 1, 1), 1))
        self.check(NoSolution, {"point": (1, 0, 0, 1)}, web.form, web.form, (1, 1), ((1, 1, -1, 1), 1))

    def test_a_helper_just_within(self):
        for helper, factor in [(FORM, (1, 1)), (FORM.scaled((2, 1)), (2, 1)), (HELPER, (2, 1))]:
            self.assertEqual(len(list(rounds(FORM, helper, factor, DEMAND, count=0))), 1)


class Needed(unittest.TestCase):
    def slow(self, factor, share):
        ratio, n = ((factor - 1) / (factor + 1)) ** 2, 0
        while ratio ** n > share:
            n += 1
        return n

    def test_samples(self):
        random = Random(6)
        for _ in range(200):
            factor = 1 + Fraction(random.randint(0, 60), random.randint(1, 12))
            share = Fraction(random.randint(1, 40), random.randint(1, 400))
            self.assertEqual(rounds_needed(as_fraction(factor, random.randint(1, 3)),
                                           list(as_fraction(share, random.randint(1, 3)))), self.slow(factor, share))

    def test_shares_around_1(self):
        for factor in ((1, 1), (29, 3), (100, 1)):
            for share in ((1, 1), (6, 6), (7, 6), (HUGE, 1)):
                self.assertEqual(rounds_needed(factor, share), 0)
        self.assertEqual(rounds_needed((29, 3), (HUGE - 1, HUGE)), 1)

    def test_powers_that_are_just_reached(self):
        for factor in (Fraction(29, 3), Fraction(3), Fraction(221, 96), Fraction(50)):
            ratio = ((factor - 1) / (factor + 1)) ** 2
            for n in (1, 2, 3, 17):
                share = ratio ** n
                self.assertEqual(rounds_needed(as_fraction(factor), as_fraction(share)), n)
                self.assertEqual(rounds_needed(as_fraction(factor), as_fraction(share * Fraction(10 ** 9 + 1, 10 ** 9))), n)
                self.assertEqual(rounds_needed(as_fraction(factor), as_fraction(share * Fraction(10 ** 9 - 1, 10 ** 9))),
                                 n + 1)

    def test_factor_1(self):
        for share in ((1, 2), (1, HUGE), (HUGE - 1, HUGE)):
            self.assertEqual(rounds_needed((1, 1), share), 1)
            self.assertEqual(rounds_needed([4, 4], list(share)), 1)

    def test_told_answers(self):
        self.assertEqual(rounds_needed((29, 3), (1, 100)), 12)
        self.assertEqual([rounds_needed((3, 1), (1, 4 ** n)) for n in range(5)], [0, 1, 2, 3, 4])
        self.assertEqual(rounds_needed((100, 1), (1, 2000)), 191)


if __name__ == "__main__":
    unittest.main()
