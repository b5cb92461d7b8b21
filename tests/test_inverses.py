import unittest
from fractions import Fraction
from random import Random

from fourcords.comparing import within
from fourcords.errors import BelowZero, NoInverse, NoSolution, SizesDiffer
from fourcords.forms import Form
from fourcords.inverses import changed_inverse, determinant, inverse, paired, sandwich, solve
from fourcords.judging import free_points, judge, leads
from fourcords.rowlists import RowList
from reference import (BIG, HUGE, determinant_of, dot, matrix, number, numbers, random_form, random_row, random_rows,
                       sample_forms, sample_points, times, value)

BELOW = [Form([[-1]]), Form([[1, 2], [2, 1]]), Form([[0, 1], [1, 7]]), Form([[1, 0], [0, -5]], bottom=3)]


def tall_form(seed):
    random = Random(seed)
    form = Form.zero(10)
    for _ in range(10):
        form = form + Form.square([random.randint(-BIG, BIG) for _ in range(10)]).scaled((random.randint(1, HUGE), 7))
    return form


class Inverse(unittest.TestCase):
    def check(self, form):
        told = inverse(form)
        self.assertEqual(told.size, form.size)
        m, x = matrix(form), matrix(told)
        at = leads(form)
        for i in range(form.size):
            for j in range(form.size):
                if i not in at or j not in at:
                    self.assertEqual(x[i][j], 0)
        self.assertEqual(times(times(m, x), m), m)
        self.assertEqual(times(times(x, m), x), x)
        block = [[m[i][j] if i in at and j in at else 0 for j in range(form.size)] for i in range(form.size)]
        self.assertEqual(matrix(inverse(told)), block)
        self.assertTrue(judge(told).holds)
        if len(at) == form.size:
            self.assertEqual(times(m, x), [[int(i == j) for j in range(form.size)] for i in range(form.size)])

    def test_samples(self):
        for form in sample_forms(1, 80):
            self.check(form)

    def test_told_answers(self):
        told = inverse(Form([[2, 1], [1, 2]]))
        self.assertEqual((told.entries, told.bottom), (((2, -1), (-1, 2)), 3))
        self.assertEqual(inverse(Form([[1, 1], [1, 1]])).entries, ((1, 0), (0, 0)))
        self.assertEqual(inverse(Form([[0, 0], [0, 4]], bottom=3)), Form([[0, 0], [0, 3]], bottom=4))
        self.assertEqual(inverse(Form.zero(0)), Form.zero(0))
        self.assertEqual(inverse(Form.zero(3)), Form.zero(3))

    def test_size_ten_with_long_numbers(self):
        form = tall_form(2)
        self.check(form)
        self.check(inverse(form))

    def test_below_zero(self):
        for form in BELOW:
            with self.assertRaises(BelowZero) as caught:
                inverse(form)
            self.assertLess(value(form, caught.exception.point), 0)


class Solve(unittest.TestCase):
    def test_samples(self):
        random = Random(3)
        for form in sample_forms(4, 80):
            m = matrix(form)
            points = free_points(form)
            for _ in range(4):
                x = random_row(random, form.size, 5)
                demand = form.applied((x, random.randint(1, 4)))
                told = solve(form, demand)
                v = numbers(told)
                self.assertEqual([dot(row, v) for row in m], numbers(demand))
                self.assertTrue(all(v[k] == 0 for k in range(form.size) if k not in leads(form)))
                self.assertEqual(form.applied(told), demand)
                wide = [[6 * top for top in demand[0]], 6 * demand[1]]
                self.assertEqual(solve(form, wide), told)
                self.assertEqual(wide[0], [6 * top for top in demand[0]])
                other = (random_row(random, form.size, 3), 2)
                wrong = [point for point in points if dot(other[0], point) != 0]
                if wrong:
                    with self.assertRaises(NoSolution) as caught:
                        solve(form, other)
                    self.assertEqual(caught.exception.point, wrong[0])
                else:
                    self.assertEqual([dot(row, numbers(solve(form, other))) for row in m],
                                     [Fraction(x, 2) for x in other[0]])

    def test_told_answers(self):
        self.assertEqual(solve(Form([[2, 1], [1, 2]]), ((1, 0), 1)), ((2, -1), 3))
        self.assertEqual(solve(Form([[2, 1], [1, 2]], bottom=5), ((3, 0), 2)), ((10, -5), 2))
        self.assertEqual(solve(Form.zero(0), ((), 3)), ((), 1))
        self.assertEqual(solve(Form.zero(2), ((0, 0), 3)), ((0, 0), 1))
        self.assertEqual(solve(Form([[1, 1], [1, 1]]), ((4, 4), 2)), ((2, 0), 1))

    def test_no_solution_with_the_first_such_point(self):
        form = Form([[0, 0, 0], [0, 1, 0], [0, 0, 0]])
        for demand, point in (((1, 0, 0), (1, 0, 0)), ((0, 5, 1), (0, 0, 1)), ((1, 0, 1), (1, 0, 0)),
                              ((-1, 2, 1), (1, 0, 0))):
            with self.assertRaises(NoSolution) as caught:
                solve(form, (demand, 3))
            self.assertEqual(caught.exception.point, point)
        with self.assertRaises(NoSolution) as caught:
            solve(Form.zero(2), ((0, 1), 1))
        self.assertEqual(caught.exception.point, (0, 1))

    def test_below_zero_goes_ahead_of_no_solution(self):
        form = Form([[0, 0, 0], [0, 1, 0], [0, 0, -1]])
        for demand in (((1, 1, 1), 2), ((0, 0, 0), 1), ((1, 0, 0), 1)):
            with self.assertRaises(BelowZero) as caught:
                solve(form, demand)
            self.assertLess(value(form, caught.exception.point), 0)

    def test_long_numbers(self):
        form = tall_form(5)
        demand = form.applied(form.applied(((1,) * 10, HUGE)))
        self.assertEqual(form.applied(solve(form, demand)), demand)
        self.assertEqual(solve(form, demand), form.applied(((1,) * 10, HUGE)))


class Products(unittest.TestCase):
    def test_paired(self):
        random = Random(6)
        for k in range(80):
            one, two = random_form(random, k % 5, 5), random_form(random, k % 5, 5)
            expected = sum((x * y for rows in zip(matrix(one), matrix(two)) for x, y in zip(*rows)), Fraction(0))
            self.assertEqual(number(paired(one, two)), expected)
            self.assertEqual(paired(two, one), paired(one, two))
            rows = random_rows(random, k % 5, k % 4)
            total = sum((Fraction(weight, rows.bottom) * value(two, row) for row, weight in rows), Fraction(0))
            self.assertEqual(number(paired(rows.form, two)), total)
        self.assertEqual(paired(Form([[2, 1], [1, 2]]), Form([[1, 1], [1, 1]])), (6, 1))
        self.assertEqual(paired(Form.zero(0), Form.zero(0)), (0, 1))

    def test_paired_is_at_least_zero(self):
        forms = sample_forms(7, 40)
        for one in forms:
            for two in forms:
                if one.size == two.size:
                    self.assertGreaterEqual(number(paired(one, two)), 0)

    def test_sandwich(self):
        random = Random(8)
        for k in range(60):
            one, two = random_form(random, k % 5, 5), random_form(random, k % 5, 5)
            for outer, inner in ((one, two), (two, one)):
                told = sandwich(outer, inner)
                a, b = matrix(outer), matrix(inner)
                self.assertEqual(matrix(told), times(times(a, b), a))
                for x in sample_points(9, outer.size, 3):
                    self.assertEqual(told(x), inner.at(outer.applied((x, 1))))
        self.assertEqual(sandwich(Form.zero(0), Form.zero(0)), Form.zero(0))
        self.assertEqual(sandwich(Form([[0, 1], [1, 0]]), Form([[1, 0], [0, 5]], bottom=2)),
                         Form([[5, 0], [0, 1]], bottom=2))

    def test_sizes_differ(self):
        one, two = Form.zero(2), Form.zero(3)
        for ask in (paired, sandwich):
            for a, b in ((one, two), (two, one)):
                with self.assertRaises(SizesDiffer) as caught:
                    ask(a, b)
                self.assertEqual((caught.exception.one, caught.exception.two), (a.size, b.size))


class Changed(unittest.TestCase):
    AMOUNTS = [(0, 1), (1, 1), (3, 6), (-1, 2), (-1, 1), (7, 3), (-9, 4), (2, 2)]

    def test_any_forms(self):
        random = Random(10)
        for k in range(100):
            form = random_form(random, k % 5, 3)
            row = random_row(random, form.size, 3)
            for amount in self.AMOUNTS:
                s = 1 + Fraction(*amount) * value(form, row)
                if s == 0:
                    with self.assertRaises(NoInverse):
                        changed_inverse(form, row, amount)
                    continue
                told = changed_inverse(form, list(row), list(amount))
                u = numbers(form.applied((row, 1)))
                for x in sample_points(11, form.size, 4):
                    expected = value(form, x) - Fraction(*amount) / s * dot(u, x) ** 2
                    self.assertEqual(value(told, x), expected)
                self.assertEqual(told, changed_inverse(form, row, amount))

    def test_told_answers(self):
        told = changed_inverse(Form([[1]]), (1,), (1, 1))
        self.assertEqual((told.entries, told.bottom), (((1,),), 2))
        self.assertEqual(changed_inverse(Form([[1]]), (1,), (-1, 2)), Form([[2]]))
        self.assertEqual(changed_inverse(Form([[1]]), (1,), (-2, 1)), Form([[-1]]))
        self.assertEqual(changed_inverse(Form([[1, 0], [0, 1]]), (0, 0), (5, 1)), Form([[1, 0], [0, 1]]))
        self.assertEqual(changed_inverse(Form.zero(0), (), (5, 1)), Form.zero(0))

    def test_no_inverse_exactly_for_zero(self):
        form = Form([[1, 0], [0, 3]], bottom=4)
        for row, amount in (((2, 0), (-1, 1)), ((0, 2), (-2, 6)), ((1, 1), (-3, 3)), ((4, 0), (-1, 4))):
            with self.assertRaises(NoInverse):
                changed_inverse(form, row, amount)
            changed_inverse(form, row, (amount[0] * 1000 + 1, amount[1] * 1000))
            changed_inverse(form, row, (amount[0] * 1000 - 1, amount[1] * 1000))
        with self.assertRaises(NoInverse):
            changed_inverse(Form([[-1]]), (1,), (1, 1))

    def test_sizes_differ_goes_ahead(self):
        form = Form([[1, 0], [0, 1]])
        for row in ((), (1,), (1, 0, 0), [1, 0, 0]):
            for amount in ((-1, 1), (0, 1)):
                with self.assertRaises(SizesDiffer) as caught:
                    changed_inverse(form, row, amount)
                self.assertEqual((caught.exception.one, caught.exception.two), (2, len(row)))

    def test_the_inverse_of_the_changed_form(self):
        random = Random(12)
        seen = [0, 0, 0]
        for form in sample_forms(13, 100):
            rows = [random_row(random, form.size, 2), (0,) * form.size]
            rows += [row for _, _, row in judge(form).squares]
            rows += [tuple(form.applied((random_row(random, form.size, 2), 1))[0])]
            points = free_points(form)
            told = inverse(form)
            for row in rows:
                if any(dot(row, point) != 0 for point in points):
                    continue
                for amount in self.AMOUNTS + [(-1, 20), (-9, 1)]:
                    s = 1 + Fraction(*amount) * value(told, row)
                    changed = form + Form.square(row).scaled(amount)
                    fits = judge(changed).holds and free_points(changed) == points
                    self.assertEqual(fits, s > 0)
                    seen[(s > 0) - (s < 0)] += 1
                    if s > 0:
                        self.assertEqual(changed_inverse(told, row, amount), inverse(changed))
        self.assertGreater(min(seen), 5)


class Determinant(unittest.TestCase):
    def test_any_forms(self):
        random = Random(14)
        for k in range(120):
            form = random_form(random, k % 6, 3)
            self.assertEqual(number(determinant(form)), determinant_of(matrix(form)))
        for form in sample_forms(15):
            self.assertEqual(number(determinant(form)), determinant_of(matrix(form)))

    def test_told_answers(self):
        self.assertEqual(determinant(Form.zero(0)), (1, 1))
        self.assertEqual(determinant(Form.zero(3)), (0, 1))
        self.assertEqual(determinant(Form([[2, 1], [1, 2]])), (3, 1))
        self.assertEqual(determinant(Form([[0, 1], [1, 0]])), (-1, 1))
        self.assertEqual(determinant(Form([[0, 3], [3, 5]], bottom=6)), (-1, 4))
        self.assertEqual(determinant(Form([[0, 0, 1], [0, 1, 0], [1, 0, 0]])), (-1, 1))
        self.assertEqual(determinant(Form([[0, 1, 0], [1, 0, 0], [0, 0, -2]])), (2, 1))
        self.assertEqual(determinant(Form([[1, 1], [1, 1]], bottom=7)), (0, 1))
        self.assertEqual(determinant(Form([[-5]], bottom=10)), (-1, 2))

    def test_one_row_more(self):
        random = Random(16)
        seen = 0
        for form in sample_forms(17, 100):
            if len(leads(form)) < form.size:
                continue
            seen += 1
            for amount in Changed.AMOUNTS:
                row = random_row(random, form.size, 4)
                changed = determinant(form + Form.square(row).scaled(amount))
                self.assertEqual(number(changed),
                                 number(determinant(form)) * (1 + Fraction(*amount) * number(inverse(form)(row))))
        self.assertGreater(seen, 20)

    def test_size_ten(self):
        form = tall_form(18)
        self.assertEqual(number(determinant(form)) * number(determinant(inverse(form))), 1)
        row = tuple(range(10))
        more = number(determinant(form + Form.square(row)))
        self.assertEqual(more, number(determinant(form)) * (1 + number(inverse(form)(row))))


class Order(unittest.TestCase):
    """Point 33."""

    def test_the_order_turns_round(self):
        random = Random(19)
        factors = [(1, 9), (1, 3), (1, 1), (2, 2), (3, 2), (2, 1), (5, 1), (40, 1)]
        seen = {}
        for _ in range(300):
            size = random.randint(0, 3)
            rows = random_rows(random, size, random.randint(0, 4), limit=2)
            one = rows.form
            two = RowList(size, [(row, random.randint(1, 9)) for row, _ in rows], bottom=random.randint(1, 3)).form
            self.assertEqual(free_points(one), free_points(two))
            low, high = random.choice(factors), random.choice(factors)
            told = within(one, two, low, high)
            turned = within(inverse(two), inverse(one), low, high)
            self.assertEqual((told.holds, told.side), (turned.holds, turned.side))
            seen[told.holds, told.side] = seen.get((told.holds, told.side), 0) + 1
        self.assertEqual(len(seen), 3)
        self.assertGreater(min(seen.values()), 20)


if __name__ == "__main__":
    unittest.main()
