import unittest
from random import Random

from fourcords.cuts import cut, least_cut, narrow_sides, sides
from fourcords.grades import grade_factor
from fourcords.parts import parts
from fourcords.ratios import multiplied
from fourcords.thinning import thinned
from fourcords.thinwebs import thinned_web
from fourcords.webs import Web
from reference import number, sample_webs

WEB = Web(5, [(0, 1, 3), (1, 2, 1), (0, 2, 2), (1, 0, 1), (3, 4, 5), (2, 0, 4)], bottom=2)


class ThinnedWebs(unittest.TestCase):
    def check(self, web, grade, order=None):
        told = thinned_web(web, grade=grade, order=order)
        self.assertIsInstance(told, Web)
        self.assertTrue(told.rows == thinned(web.rows, grade=grade, order=order))
        self.assertTrue(told == Web.of_rows(told.rows))
        self.assertEqual((told.places, parts(told)), (web.places, parts(web)))
        self.assertLessEqual(len(told), grade * grade * (web.places - len(parts(web))))
        left = list(web.ties)
        for one, two, _ in told:
            while left[0][:2] != (one, two):
                left.pop(0)
            left.pop(0)
        factor = number(grade_factor(grade))
        for side in sides(web.places):
            first, second = number(cut(web, side)), number(cut(told, side))
            if first == 0:
                self.assertEqual(second, 0)
            else:
                self.assertTrue(first < second < factor * first)
        for limit in ((1, 1), (7, 2)):
            wider = narrow_sides(told, multiplied(grade_factor(grade), limit))
            self.assertTrue(all(side in wider for side in narrow_sides(web, limit)))
        if web.places > 1:
            first, second = number(least_cut(web, 0, 1)[0]), number(least_cut(told, 0, 1)[0])
            self.assertTrue(first <= second <= factor * first)

    def test_samples(self):
        random = Random(1)
        for web in sample_webs(2, 25, top_places=5):
            order = random.sample(range(len(web)), len(web))
            self.check(web, 2)
            self.check(web, 2, order)
            if web.places < 5:
                self.check(web, random.choice([3, 4, 5]), tuple(order))

    def test_larger_webs(self):
        self.check(Web.complete(8), 2)
        self.check(Web.grid(5, 2, strength=3), 3)
        self.check(Web.complete(2, strength=9), 10)

    def test_told_answers(self):
        self.assertEqual(thinned_web(Web.complete(2)).ties, ((0, 1, 2),))
        self.assertTrue(thinned_web(WEB) == thinned_web(WEB, grade=2, order=(0, 1, 2, 3, 4, 5)))
        self.assertFalse(thinned_web(WEB) == thinned_web(WEB, order=(5, 4, 3, 2, 1, 0)))
        self.assertFalse(thinned_web(WEB) == thinned_web(WEB, grade=3))
        for places in (0, 1, 7):
            self.assertTrue(thinned_web(Web(places, []), grade=4) == Web(places, []))

    def test_the_order_is_that_of_the_ties(self):
        web = Web(2, [(0, 1, 1)] * 4)
        run_order = thinned_web(web, order=[3, 1, 0, 2])
        self.assertEqual(len(run_order), 1)
        self.assertTrue(run_order.rows == thinned(web.rows, order=[3, 1, 0, 2]))


if __name__ == "__main__":
    unittest.main()
