import unittest
from fractions import Fraction
from random import Random

from fourcords.currents import heights, outflow, tie_currents
from fourcords.errors import NoSolution
from fourcords.losses import flow_loss, height_bound, least_loss
from fourcords.webs import Web
from reference import (BIG, HUGE, as_vector, at_row, balanced, dot, inverse_of, matrix, number, numbers, parts_of,
                       random_row, random_web, sample_webs, strength_of, value)

# Two parts and a single place between them, with two ties from 0 to 3.
LOOSE = Web(5, [(0, 3, 2), (1, 4, 3), (0, 3, 1)], bottom=2)
EMPTY = [Web(0, []), Web(1, []), Web(4, [])]


def summed(one, two):
    return [x + y for x, y in zip(one, two)]


def without_outflow(random, web):
    """The numbers of some flow whose outflow is 0 everywhere; all of them are 0 where no ties close a ring."""
    flow = random_row(random, len(web), 9)
    currents = tie_currents(web, heights(web, outflow(web, (flow, 1))))
    return [x - y for x, y in zip(flow, numbers(currents))]


class FlowLoss(unittest.TestCase):
    def test_samples(self):
        random = Random(1)
        for web in sample_webs(2):
            flow, bottom = random_row(random, len(web), 9), random.randint(1, 6)
            expected = sum((Fraction(x, bottom) ** 2 / strength_of(web, tie) for x, tie in zip(flow, web)), Fraction(0))
            self.assertEqual(number(flow_loss(web, (flow, bottom))), expected)
            self.assertEqual(number(flow_loss(web, [[-4 * x for x in flow], 4 * bottom])), expected)

    def test_told_answers(self):
        self.assertEqual(flow_loss(Web(2, [(0, 1, 2)]), ((1,), 1)), (1, 2))
        self.assertEqual(flow_loss(Web(2, [(0, 1, 2)], bottom=3), ((1,), 1)), (3, 2))
        self.assertEqual(flow_loss(LOOSE, ((2, 3, -1), 1)), (12, 1))
        self.assertEqual(flow_loss(LOOSE, ([4, 6, -2], 6)), (4, 3))
        for web in EMPTY:
            self.assertEqual(flow_loss(web, ((), 7)), (0, 1))

    def test_the_loss_of_currents_is_the_value_at_the_heights(self):
        random = Random(3)
        for web in sample_webs(4):
            levels = random_row(random, web.places, 9), random.randint(1, 6)
            self.assertEqual(flow_loss(web, tie_currents(web, levels)), web.form.at(levels))


class HeightBound(unittest.TestCase):
    def test_samples(self):
        random = Random(5)
        for web in sample_webs(6):
            demand, levels = random_row(random, web.places, 9), random_row(random, web.places, 9)
            one, two = random.randint(1, 6), random.randint(1, 6)
            x, v = [Fraction(k, one) for k in demand], [Fraction(k, two) for k in levels]
            told = height_bound(web, (demand, one), [list(levels), two])
            self.assertEqual(number(told), 2 * dot(x, v) - value(web.form, v))

    def test_told_answers(self):
        web = Web(2, [(0, 1, 2)])
        self.assertEqual(height_bound(web, ((1, -1), 1), ((1, 0), 1)), (0, 1))
        self.assertEqual(height_bound(web, ((1, -1), 1), ((2, 0), 4)), (1, 2))
        self.assertEqual(height_bound(web, ((1, -1), 1), ((0, 1), 1)), (-4, 1))
        # A demand that cannot be met has bounds, too.
        self.assertEqual(height_bound(web, ((1, 1), 1), ((7, 7), 1)), (28, 1))
        for web in EMPTY:
            self.assertEqual(height_bound(web, ((0,) * web.places, 3), ((5,) * web.places, 3)), (0, 1))


class LeastLoss(unittest.TestCase):
    def test_samples(self):
        random = Random(7)
        for web in sample_webs(8):
            demand, bottom = balanced(random, web), random.randint(1, 6)
            told = number(least_loss(web, (demand, bottom)))
            self.assertEqual(told, at_row(inverse_of(matrix(web.form)), [Fraction(x, bottom) for x in demand]))
            self.assertEqual(number(least_loss(web, [[3 * x for x in demand], 3 * bottom])), told)

    def test_no_other_flow_has_it(self):
        random = Random(9)
        others = 0
        for web in sample_webs(10):
            demand = balanced(random, web), random.randint(1, 6)
            least = number(least_loss(web, demand))
            best = numbers(tie_currents(web, heights(web, demand)))
            self.assertEqual(number(flow_loss(web, as_vector(best))), least)
            for _ in range(3):
                ring = without_outflow(random, web)
                flow = as_vector(summed(best, ring))
                self.assertEqual(numbers(outflow(web, flow)), [Fraction(x, demand[1]) for x in demand[0]])
                if any(ring):
                    others += 1
                    self.assertGreater(number(flow_loss(web, flow)), least)
        self.assertGreater(others, 30)

    def test_no_other_heights_have_it(self):
        random = Random(11)
        for web in sample_webs(12):
            demand = balanced(random, web), random.randint(1, 6)
            least, best = number(least_loss(web, demand)), numbers(heights(web, demand))
            lift = [Fraction(0)] * web.places
            for part in parts_of(web):
                rise = Fraction(random.randint(-9, 9), 4)
                lift = [x + rise * (place in part) for place, x in enumerate(lift)]
            self.assertEqual(number(height_bound(web, demand, as_vector(summed(best, lift)))), least)
            for _ in range(4):
                levels = summed(best, [Fraction(random.randint(-3, 3), 5) for _ in range(web.places)])
                told = number(height_bound(web, demand, as_vector(levels)))
                meets = [dot(row, levels) for row in matrix(web.form)] == [Fraction(x, demand[1]) for x in demand[0]]
                if meets:
                    self.assertEqual(told, least)
                else:
                    self.assertLess(told, least)

    def test_told_answers(self):
        self.assertEqual(least_loss(Web(2, [(0, 1, 2)]), ((1, -1), 1)), (1, 2))
        self.assertEqual(least_loss(Web(2, [(0, 1, 2)]), ([3, -3], 6)), (1, 8))
        self.assertEqual(least_loss(LOOSE, ((3, 3, 0, -3, -3), 1)), (12, 1))
        self.assertEqual(least_loss(Web.ring(4), ((1, 0, -1, 0), 1)), (1, 1))
        for web in EMPTY:
            self.assertEqual(least_loss(web, ((0,) * web.places, 7)), (0, 1))

    def test_no_solution(self):
        cases = [(LOOSE, (1, 0, 0, 0, 0), (1, 0, 0, 1, 0)), (LOOSE, (0, 0, 0, 0, -1), (0, 1, 0, 0, 1)),
                 (LOOSE, (1, 1, 1, 0, 0), (0, 0, 1, 0, 0)), (LOOSE, (5, 5, 0, 0, 0), (1, 0, 0, 1, 0)),
                 (Web(1, []), (3,), (1,)), (Web(4, [(0, 3, 1), (1, 2, 1)]), (1, 1, 1, 1), (0, 1, 1, 0))]
        for web, demand, point in cases:
            for bottom in (1, 7):
                with self.assertRaises(NoSolution) as caught:
                    least_loss(web, [list(demand), bottom])
                self.assertEqual(caught.exception.point, point)

    def test_long_numbers(self):
        random = Random(13)
        web = random_web(random, 10, 60, strength=HUGE, bottom=HUGE)
        demand = balanced(random, web), BIG
        self.assertEqual(flow_loss(web, tie_currents(web, heights(web, demand))), least_loss(web, demand))
        self.assertEqual(height_bound(web, demand, heights(web, demand)), least_loss(web, demand))


if __name__ == "__main__":
    unittest.main()
