import unittest
from random import Random

from fourcords.comparing import within
from fourcords.errors import BelowZero
from fourcords.factors import greatest_low, least_high
from fourcords.forms import Form
from fourcords.judging import leads, rank
from fourcords.rowlists import RowList
from fourcords.seen import filled, seen_from
from reference import BIG, HUGE, dot, matrix, numbers, random_row, random_rows, sample_forms, value

PATH = Form([[1, -1, 0], [-1, 2, -1], [0, -1, 1]])
# The last three are at least 0 if only one unknown is looked at.
BELOW = [Form([[-1]]), Form([[1, 0], [0, -1]], bottom=3), Form([[1, 2], [2, 1]]), Form([[0, 1], [1, 0]]),
         Form([[1, 1, 1], [1, 1, 0], [1, 0, 1]])]


def sample_keeps(random, size):
    order = list(range(size))
    random.shuffle(order)
    return [(), tuple(range(size)), tuple(order), tuple(order[:size // 2]), tuple(order[:1])]


class Seen(unittest.TestCase):
    def check(self, form, keep, values):
        told = filled(form, keep, values)
        x = numbers(told)
        m = matrix(form)
        others = [i for i in range(form.size) if i not in keep]
        self.assertEqual([x[i] for i in keep], list(values))
        # The slopes of the other unknowns are 0, so this is a least value.
        for i in others:
            self.assertEqual(dot(m[i], x), 0)
        inner = leads(Form([[form.entries[i][j] for j in others] for i in others]))
        for place, i in enumerate(others):
            if place not in inner:
                self.assertEqual(x[i], 0)
        seen = seen_from(form, keep)
        self.assertEqual(seen.size, len(keep))
        self.assertEqual(value(seen, values), sum(x[i] * dot(m[i], x) for i in range(form.size)))
        self.assertEqual(seen(values), form.at(told))

    def test_samples(self):
        random = Random(1)
        for form in sample_forms(2, 100, top_size=5):
            for keep in sample_keeps(random, form.size):
                for _ in range(2):
                    self.check(form, keep, random_row(random, len(keep), 4))

    def test_no_other_values_are_below(self):
        random = Random(3)
        for form in sample_forms(4, 30):
            keep = sample_keeps(random, form.size)[3]
            seen = seen_from(form, keep)
            for _ in range(20):
                x = random_row(random, form.size, 5)
                self.assertGreaterEqual(value(form, x), value(seen, [x[i] for i in keep]))

    def test_told_answers(self):
        seen = seen_from(PATH, (0, 2))
        self.assertEqual((seen.entries, seen.bottom), (((1, -1), (-1, 1)), 2))
        self.assertEqual(filled(PATH, (0, 2), (1, 0)), ((2, 1, 0), 2))
        self.assertEqual(filled(PATH, (2, 0), (1, 0)), ((0, 1, 2), 2))
        self.assertTrue(seen_from(PATH.scaled((5, 3)), (0, 2)) == Form([[5, -5], [-5, 5]], bottom=6))

    def test_the_order_of_the_indexes_counts(self):
        form = RowList(3, [((1, 2, 0), 3), ((0, 1, 5), 2), ((1, 0, 1), 1)]).form
        one, two = seen_from(form, (0, 2)), seen_from(form, [2, 0])
        self.assertEqual(two.entries, ((one.entries[1][1], one.entries[1][0]), (one.entries[0][1], one.entries[0][0])))
        whole = seen_from(form, (2, 0, 1))
        self.assertEqual(whole((7, 8, 9)), form((8, 9, 7)))
        self.assertEqual(filled(form, (2, 0, 1), (7, 8, 9)), ((8, 9, 7), 1))

    def test_all_and_none(self):
        for form in [*sample_forms(5, 20), PATH]:
            everything = tuple(range(form.size))
            self.assertTrue(seen_from(form, everything) == form)
            self.assertEqual(filled(form, everything, everything), (everything, 1))
            self.assertTrue(seen_from(form, ()) == Form.zero(0))
            self.assertEqual(filled(form, (), ()), ((0,) * form.size, 1))

    def test_unknowns_that_are_free_stay_0(self):
        form = Form([[1, -1, -1], [-1, 1, 1], [-1, 1, 1]])
        self.assertEqual(filled(form, (0,), (6,)), ((6, 6, 0), 1))
        self.assertEqual(filled(form, (2,), (6,)), ((6, 0, 6), 1))
        self.assertTrue(seen_from(form, (0,)) == Form.zero(1))
        self.assertEqual(filled(Form.zero(3), (1,), (6,)), ((0, 6, 0), 1))
        self.assertTrue(seen_from(Form.zero(3), (1, 2)) == Form.zero(2))

    def test_size_ten_with_long_numbers(self):
        random = Random(6)
        pairs = [(random_row(random, 10, BIG), random.randint(1, HUGE)) for _ in range(8)]
        form = RowList(10, pairs, bottom=HUGE - 2).form
        self.check(form, (9, 0, 4, 3), (BIG, -BIG, 1, 0))
        self.check(form, (5,), (1,))

    def test_below_zero(self):
        for form in BELOW:
            for keep in [(), (0,), tuple(range(form.size))]:
                for ask in (lambda: seen_from(form, keep), lambda: filled(form, keep, (1,) * len(keep))):
                    with self.assertRaises(BelowZero) as caught:
                        ask()
                    self.assertEqual(len(caught.exception.point), form.size)
                    self.assertLess(value(form, caught.exception.point), 0)


class SeenWithinFactors(unittest.TestCase):
    def test_the_factors_stay(self):
        random = Random(7)
        for at in range(40):
            size = at % 5
            rows = random_rows(random, size, 2 * size)
            one = rows.form
            two = RowList(size, [(row, weight * random.randint(2, 7)) for row, weight in rows],
                          bottom=rows.bottom * 3).form
            for low, high in [((2, 3), (7, 3)), ((0, 1), (9, 1))]:
                self.assertTrue(within(one, two, low, high).holds)
                for keep in sample_keeps(random, size):
                    self.assertTrue(within(seen_from(one, keep), seen_from(two, keep), low, high).holds)

    def test_the_best_factors_come_no_nearer_to_one_another(self):
        random = Random(8)
        for _ in range(15):
            one, two = random_rows(random, 3, 6).form, random_rows(random, 3, 6).form
            if rank(one) < 3:
                continue
            low, high = greatest_low(one, two, bottom=100), least_high(one, two, bottom=100)
            for keep in sample_keeps(random, 3):
                seen = within(seen_from(one, keep), seen_from(two, keep), (low, 100), (high, 100))
                self.assertTrue(seen.holds)

    def test_unknowns_settle_in_any_order(self):
        random = Random(9)
        for form in sample_forms(10, 60, top_size=5):
            keep = sample_keeps(random, form.size)[2][:random.randint(0, form.size)]
            left = form
            names = list(range(form.size))
            going = [i for i in names if i not in keep]
            random.shuffle(going)
            for i in going:
                at = names.index(i)
                left = seen_from(left, [k for k in range(len(names)) if k != at])
                names.remove(i)
            self.assertTrue(seen_from(left, [names.index(i) for i in keep]) == seen_from(form, keep))
            few = sample_keeps(random, len(keep))[3]
            self.assertTrue(seen_from(seen_from(form, keep), few) == seen_from(form, [keep[i] for i in few]))


if __name__ == "__main__":
    unittest.main()
