import unittest
from fractions import Fraction
from random import Random

from fourcords.currents import heights, outflow, tie_currents
from fourcords.errors import NoSolution
from fourcords.inverses import solve
from fourcords.webs import Web
from reference import HUGE, balanced, dot, matrix, numbers, parts_of, random_row, random_web, sample_webs, strength_of

# Two parts and a single place between them.
LOOSE = Web(5, [(0, 3, 2), (1, 4, 3), (0, 3, 1)], bottom=2)


class Heights(unittest.TestCase):
    def test_samples(self):
        random = Random(1)
        for web in sample_webs(2):
            demand, bottom = balanced(random, web), random.randint(1, 6)
            told = heights(web, (demand, bottom))
            v = numbers(told)
            self.assertEqual([dot(row, v) for row in matrix(web.form)], [Fraction(x, bottom) for x in demand])
            self.assertTrue(all(v[part[-1]] == 0 for part in parts_of(web)))
            self.assertEqual(told, solve(web.form, (demand, bottom)))

    def test_told_answers(self):
        self.assertEqual(heights(Web(2, [(0, 1, 2)]), ((1, -1), 1)), ((1, 0), 2))
        self.assertEqual(heights(Web(2, [(0, 1, 2)]), [[3, -3], 3]), ((1, 0), 2))
        self.assertEqual(heights(Web.ring(4), ((1, 0, -1, 0), 1)), ((1, 0, -1, 0), 2))
        self.assertEqual(heights(LOOSE, ((3, 6, 0, -3, -6), 2)), ((1, 2, 0, 0, 0), 1))
        self.assertEqual(heights(Web(0, []), ((), 4)), ((), 1))
        self.assertEqual(heights(Web(3, []), ((0, 0, 0), 4)), ((0, 0, 0), 1))

    def test_no_solution(self):
        cases = [(LOOSE, (1, 0, 0, 0, 0), (1, 0, 0, 1, 0)), (LOOSE, (0, 0, 0, 0, -1), (0, 1, 0, 0, 1)),
                 (LOOSE, (5, 5, 0, 0, 0), (1, 0, 0, 1, 0)), (LOOSE, (0, 7, -7, 0, 0), (0, 0, 1, 0, 0)),
                 (LOOSE, (1, 1, 1, 0, 0), (0, 0, 1, 0, 0)), (Web(1, []), (3,), (1,)),
                 (Web(4, [(0, 3, 1), (1, 2, 1)]), (1, 1, 1, 1), (0, 1, 1, 0)),
                 (Web(4, [(0, 3, 1), (1, 2, 1)]), (1, 1, -1, 1), (1, 0, 0, 1)),
                 (Web.ring(3), (1, 1, -1), (1, 1, 1))]
        for web, demand, point in cases:
            for bottom in (1, 7):
                with self.assertRaises(NoSolution) as caught:
                    heights(web, (demand, bottom))
                self.assertEqual(caught.exception.point, point)

    def test_the_part_that_is_due(self):
        random = Random(3)
        for web in sample_webs(4, 40):
            demand = balanced(random, web)
            if web.places == 0:
                continue
            for place in random.sample(range(web.places), random.randint(1, min(2, web.places))):
                demand[place] += 1
            wrong = [part for part in parts_of(web) if sum(demand[place] for place in part) != 0]
            due = min(wrong, key=lambda part: part[-1])
            with self.assertRaises(NoSolution) as caught:
                heights(web, (demand, 5))
            self.assertEqual(caught.exception.point, tuple(int(place in due) for place in range(web.places)))


class Flows(unittest.TestCase):
    def test_samples(self):
        random = Random(5)
        for web in sample_webs(6):
            levels, bottom = random_row(random, web.places, 9), random.randint(1, 6)
            told = tie_currents(web, (levels, bottom))
            self.assertEqual(numbers(told), [strength_of(web, tie) * Fraction(levels[tie[0]] - levels[tie[1]], bottom)
                                             for tie in web.ties])
            # What the currents of any heights have as their outflow.
            self.assertEqual(outflow(web, told), web.form.applied((levels, bottom)))
            flow = random_row(random, len(web), 9)
            expected = [Fraction(0)] * web.places
            for (one, two, _), number in zip(web.ties, flow):
                expected[one] += Fraction(number, bottom)
                expected[two] -= Fraction(number, bottom)
            self.assertEqual(numbers(outflow(web, (flow, bottom))), expected)

    def test_told_answers(self):
        web = Web(2, [(0, 1, 2)])
        self.assertEqual(tie_currents(web, ((1, 0), 2)), ((1,), 1))
        self.assertEqual(tie_currents(web, ([0, 1], 4)), ((-1,), 2))
        self.assertEqual(outflow(web, ((1,), 1)), ((1, -1), 1))
        # The strength makes no difference, and the lesser place is the first one however the tie was passed.
        web = Web(3, [(2, 0, 6), (1, 2, 4)], bottom=4)
        self.assertEqual(outflow(web, ([3, -6], 9)), ((1, -2, 1), 3))
        self.assertEqual(tie_currents(web, ((4, 1, 2), 1)), ((3, -1), 1))
        self.assertEqual(tie_currents(Web(0, []), ((), 3)), ((), 1))
        self.assertEqual(outflow(Web(0, []), ((), 3)), ((), 1))
        self.assertEqual(tie_currents(Web(2, []), ((5, 1), 3)), ((), 1))
        self.assertEqual(outflow(Web(2, []), ((), 3)), ((0, 0), 1))

    def test_long_numbers(self):
        random = Random(7)
        web = random_web(random, 10, 60, strength=HUGE, bottom=HUGE)
        demand = balanced(random, web), 10 ** 100
        levels = heights(web, demand)
        self.assertEqual(numbers(outflow(web, tie_currents(web, levels))), [Fraction(x, 10 ** 100) for x in demand[0]])


if __name__ == "__main__":
    unittest.main()
