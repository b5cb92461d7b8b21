import unittest
from fractions import Fraction
from random import Random

from fourcords.errors import NotSquare, NotSymmetric, SizesDiffer
from fourcords.forms import Form
from fourcords.judging import judge
from reference import HUGE, as_lists, dot, has_list, matrix, number, numbers, random_form, sample_points, value

FACTORS = [(0, 1), (0, 4), (1, 1), (2, 6), (-3, 2), (-4, 6), (7, 1)]


def samples(seed, count=30):
    random = Random(seed)
    return [random_form(random, k % 5, 6) for k in range(count)]


def random_vector(random, size):
    return [random.randint(-6, 6) for _ in range(size)], random.randint(1, 6)


class Making(unittest.TestCase):
    def test_fields(self):
        form = Form([[4, 2], [2, 0]], bottom=6)
        self.assertEqual((form.size, form.entries, form.bottom), (2, ((2, 1), (1, 0)), 3))
        form = Form([[4, 2], [2, -8]])
        self.assertEqual((form.size, form.entries, form.bottom), (2, ((4, 2), (2, -8)), 1))
        form = Form([[4, 2], [2, -8]], bottom=4)
        self.assertEqual((form.entries, form.bottom), (((2, 1), (1, -4)), 2))

    def test_zero_everywhere_and_size_zero(self):
        for form in (Form([[0, 0], [0, 0]], bottom=6), Form.zero(2)):
            self.assertEqual((form.size, form.entries, form.bottom), (2, ((0, 0), (0, 0)), 1))
        for form in (Form([], bottom=6), Form((), bottom=1), Form.zero(0)):
            self.assertEqual((form.size, form.entries, form.bottom), (0, (), 1))
        self.assertEqual(Form.zero(0)(()), (0, 1))

    def test_not_square(self):
        for entries, row in [([[1, 2]], 0), ([[1, 2], [2]], 1), ([[1, 2], [2, 3, 4]], 1), ([[1], [2]], 0), ([[]], 0),
                             ([[1, 0, 0], [0, 1], [0]], 1), ([(), ()], 0)]:
            with self.assertRaises(NotSquare) as caught:
                Form(entries)
            self.assertEqual(caught.exception.row, row)

    def test_not_symmetric(self):
        for entries, place in [([[1, 2], [3, 4]], (0, 1)), ([[1, 2, 3], [2, 1, 4], [9, 9, 1]], (0, 2)),
                               ([[1, 2, 3], [2, 1, 4], [3, 5, 1]], (1, 2)), ([[1, 2, 3], [9, 1, 4], [3, 9, 1]], (0, 1))]:
            with self.assertRaises(NotSymmetric) as caught:
                Form(entries)
            self.assertEqual((caught.exception.row, caught.exception.column), place)

    def test_not_square_goes_ahead_of_not_symmetric(self):
        with self.assertRaises(NotSquare) as caught:
            Form([[1, 2, 0], [3, 4, 0], [0, 0]])
        self.assertEqual(caught.exception.row, 2)

    def test_lists_and_tuples_and_copies(self):
        entries = [[2, 1], [1, 2]]
        form = Form(entries)
        entries[0][0] = 99
        entries.append([1])
        self.assertEqual(form.entries, ((2, 1), (1, 2)))
        self.assertFalse(has_list(form.entries))
        self.assertEqual(Form([(2, 1), [1, 2]]), Form(((2, 1), (1, 2))))
        self.assertEqual(Form([(2, 1), [1, 2]]), form)

    def test_zero_and_square(self):
        for row in [(), (3,), (1, -2), (0, 0, 0), (2, 0, -4)]:
            form = Form.square(row)
            for x in sample_points(1, len(row)):
                self.assertEqual(number(form(x)), dot(row, x) ** 2)
            self.assertEqual(form, Form.square(list(row)))
        self.assertEqual(Form.square((0, 2)).entries, ((0, 0), (0, 4)))
        for size in range(11):
            self.assertEqual(matrix(Form.zero(size)), [[0] * size for _ in range(size)])


class Operators(unittest.TestCase):
    def test_sums_and_differences(self):
        forms = samples(3)
        for one in forms:
            for two in forms:
                if one.size == two.size:
                    for x in sample_points(4, one.size, 3):
                        self.assertEqual(value(one + two, x), value(one, x) + value(two, x))
                        self.assertEqual(value(one - two, x), value(one, x) - value(two, x))
        form = Form([[3]], bottom=2)
        self.assertEqual(((form - form).entries, (form - form).bottom), (((0,),), 1))
        self.assertEqual(((form + form).entries, (form + form).bottom), (((3,),), 1))

    def test_operators_change_nothing(self):
        one, two = Form([[2, 1], [1, 4]], bottom=3), Form([[0, 1], [1, 0]])
        one + two, one - two, one == two, one.scaled((2, 4)), one((1, 2)), one.applied(((1, 2), 3))
        self.assertEqual((one.entries, one.bottom), (((2, 1), (1, 4)), 3))
        self.assertEqual((two.entries, two.bottom), (((0, 1), (1, 0)), 1))

    def test_sizes_differ(self):
        one, two = Form.zero(2), Form.zero(3)
        for act in (lambda a, b: a + b, lambda a, b: a - b):
            for a, b in ((one, two), (two, one)):
                with self.assertRaises(SizesDiffer) as caught:
                    act(a, b)
                self.assertEqual((caught.exception.one, caught.exception.two), (a.size, b.size))

    def test_equality(self):
        one = Form([[2, 1], [1, 2]], bottom=2)
        self.assertTrue(one == Form([[4, 2], [2, 4]], bottom=4))
        self.assertFalse(one != Form([[4, 2], [2, 4]], bottom=4))
        for other in (Form([[2, 1], [1, 2]]), Form([[2, 1], [1, 3]], bottom=2), Form([[2]], bottom=2), Form.zero(0),
                      None, 0, "form", (), one.entries, [[2, 1], [1, 2]]):
            self.assertIs(one == other, False)
            self.assertIs(one != other, True)
            self.assertIs(other == one, False)
        self.assertFalse(Form.zero(1) == Form.zero(2))
        self.assertFalse(Form.zero(0) == Form.zero(1))
        self.assertTrue(Form.zero(0) == Form([]))

    def test_equal_fields_exactly_for_equal_values(self):
        forms = samples(5, 60)
        for one in forms:
            for two in forms:
                if one.size == two.size:
                    same = all(value(one, x) == value(two, x) for x in sample_points(6, one.size, 40))
                    self.assertEqual(one == two, same)
                    self.assertEqual((one.entries, one.bottom) == (two.entries, two.bottom), same)


class Methods(unittest.TestCase):
    def test_values(self):
        random = Random(7)
        for form in samples(8):
            m = matrix(form)
            for x in sample_points(9, form.size, 4):
                self.assertEqual(number(form(x)), value(form, x))
                self.assertEqual(form(list(x)), form(x))
                y = tuple(random.randint(-6, 6) for _ in x)
                expected = sum((x[i] * m[i][j] * y[j] for i in range(form.size) for j in range(form.size)), Fraction(0))
                self.assertEqual(number(form.between(x, y)), expected)
                self.assertEqual(form.between(list(x), list(y)), form.between(x, y))
                self.assertEqual(form.between(y, x), form.between(x, y))

    def test_values_at_points_of_another_size(self):
        form = Form([[1, 0], [0, 1]])
        for point in ((), (1,), (1, 2, 3), [1, 2, 3]):
            for ask in (form, lambda x: form.between(x, (1, 2)), lambda x: form.between((1, 2), x)):
                with self.assertRaises(SizesDiffer) as caught:
                    ask(point)
                self.assertEqual((caught.exception.one, caught.exception.two), (2, len(point)))
        with self.assertRaises(SizesDiffer) as caught:
            form.between((1,), (1, 2, 3))
        self.assertEqual((caught.exception.one, caught.exception.two), (2, 1))

    def test_at_and_applied(self):
        random = Random(10)
        for form in samples(11):
            m = matrix(form)
            for _ in range(5):
                tops, bottom = random_vector(random, form.size)
                x = [Fraction(top, bottom) for top in tops]
                self.assertEqual(number(form.at((tops, bottom))), value(form, x))
                self.assertEqual(numbers(form.applied((tops, bottom))), [dot(row, x) for row in m])
                wide = (tuple(3 * top for top in tops), 3 * bottom)
                self.assertEqual(form.at(wide), form.at([tops, bottom]))
                self.assertEqual(form.applied(wide), form.applied([tops, bottom]))
        self.assertEqual(Form.zero(0).applied(((), 4)), ((), 1))
        self.assertEqual(Form.zero(2).applied(((1, 5), 4)), ((0, 0), 1))

    def test_scaled(self):
        for form in samples(12):
            m = matrix(form)
            for factor in FACTORS:
                scaled = form.scaled(factor)
                self.assertEqual(matrix(scaled), [[Fraction(*factor) * x for x in row] for row in m])
                self.assertEqual(scaled, form.scaled(list(factor)))
        self.assertEqual(Form([[5]], bottom=3).scaled((0, 9)), Form.zero(1))


class Between(unittest.TestCase):
    """The last sentence of point 33."""

    def test_square_of_between_is_at_most_the_product(self):
        from reference import sample_forms
        tight = 0
        for form in sample_forms(13):
            self.assertTrue(judge(form).holds)
            points = sample_points(14, form.size, 6)
            for x in points:
                for factor in (1, -3, 0):
                    y = tuple(factor * k for k in x)
                    self.assertEqual(number(form.between(x, y)) ** 2, number(form(x)) * number(form(y)))
                for y in points:
                    left = number(form.between(x, y)) ** 2
                    right = number(form(x)) * number(form(y))
                    self.assertLessEqual(left, right)
                    tight += left < right
        self.assertGreater(tight, 100)


class Large(unittest.TestCase):
    def test_size_ten_with_long_numbers(self):
        random = Random(15)
        entries = [[0] * 10 for _ in range(10)]
        for i in range(10):
            for j in range(i, 10):
                entries[i][j] = entries[j][i] = random.randint(-HUGE, HUGE)
        form = Form(entries, bottom=random.randint(1, HUGE))
        x = tuple(random.randint(-10 ** 12, 10 ** 12) for _ in range(10))
        self.assertEqual(number(form(x)), value(form, x))
        image = form.applied((x, 7))
        self.assertEqual(number(form.at(form.applied(image))), value(form, numbers(form.applied(image))))
        self.assertEqual(form.scaled(form(x)).scaled(form.at(image)) - form.scaled(form.at(image)).scaled(form(x)),
                         Form.zero(10))
        self.assertEqual(Form(as_lists(form.entries), bottom=form.bottom), form)


if __name__ == "__main__":
    unittest.main()
