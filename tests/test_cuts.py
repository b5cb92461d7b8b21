import unittest
from fractions import Fraction
from itertools import combinations
from random import Random

from fourcords.cuts import cut, cut_range, least_cut, narrow_sides, sides
from fourcords.errors import SamePlace, SizesDiffer
from fourcords.webs import Web
from reference import HUGE, cut_of, number, parts_of, random_web, sample_webs

PAIRS = Web(6, [(0, 1, 3), (2, 3, 1), (3, 4, 1)], bottom=2)


def all_sides(places):
    """The sides of point 55, from all combinations."""
    found = []
    for count in range(1, places):
        found += [side for side in combinations(range(places), count) if 0 in side]
    return found


def fraction_pair(x):
    return x.numerator, x.denominator


class Cut(unittest.TestCase):
    def test_samples(self):
        random = Random(1)
        for web in sample_webs(2):
            for _ in range(10):
                side = random.sample(range(web.places), random.randint(0, web.places))
                told = cut(web, side)
                self.assertEqual(number(told), cut_of(web, side))
                self.assertEqual(told, web.form([int(place in side) for place in range(web.places)]))
                self.assertEqual(cut(web, tuple(reversed(side))), told)
                self.assertEqual(cut(web, [place for place in range(web.places) if place not in side]), told)

    def test_told_answers(self):
        self.assertEqual(cut(Web.complete(3), (0,)), (2, 1))
        web = Web(4, [(0, 1, 2), (1, 2, 4), (0, 1, 6), (0, 3, 1)], bottom=6)
        self.assertEqual([cut(web, side) for side in ((1,), (3, 0), [2, 1], (0, 1), (3, 1, 2))],
                         [(2, 1), (4, 3), (4, 3), (5, 6), (3, 2)])

    def test_none_and_all(self):
        for web in sample_webs(3, 10):
            self.assertEqual(cut(web, ()), (0, 1))
            self.assertEqual(cut(web, list(range(web.places))[::-1]), (0, 1))


class Sides(unittest.TestCase):
    def test_all_numbers_of_places(self):
        for places in range(11):
            told = list(sides(places))
            self.assertEqual(told, all_sides(places))
            self.assertTrue(all(type(side) is tuple for side in told))
            self.assertEqual(len(told), max(2 ** (places - 1) - 1, 0) if places > 0 else 0)

    def test_told_answers(self):
        self.assertEqual([list(sides(places)) for places in (0, 1, 2)], [[], [], [(0,)]])
        self.assertEqual(list(sides(3)), [(0,), (0, 1), (0, 2)])
        self.assertEqual(list(sides(4)), [(0,), (0, 1), (0, 2), (0, 3), (0, 1, 2), (0, 1, 3), (0, 2, 3)])

    def test_a_call_by_itself_looks_at_nothing(self):
        told = sides(None)
        self.assertTrue(hasattr(told, "__next__"))
        with self.assertRaises(Exception):
            next(told)


class NarrowSides(unittest.TestCase):
    def test_samples(self):
        for web in sample_webs(4):
            cuts = [cut_of(web, side) for side in all_sides(web.places)]
            limits = {Fraction(0), Fraction(-1), Fraction(10 ** 9), *cuts[:3], *[x - Fraction(1, 10 ** 9) for x in cuts[:3]]}
            for limit in limits:
                told = narrow_sides(web, fraction_pair(limit))
                self.assertIs(type(told), tuple)
                self.assertEqual(told, tuple(side for side in all_sides(web.places) if cut_of(web, side) <= limit))

    def test_told_answers(self):
        self.assertEqual(narrow_sides(PAIRS, (0, 1)), ((0, 1), (0, 1, 5), (0, 1, 2, 3, 4)))
        self.assertEqual(narrow_sides(Web.ring(4), (2, 1)), ((0,), (0, 1), (0, 3), (0, 1, 2), (0, 1, 3), (0, 2, 3)))
        self.assertEqual(narrow_sides(Web.ring(4), [7, 2]), narrow_sides(Web.ring(4), (2, 1)))
        self.assertEqual(narrow_sides(Web.ring(4), (19, 10)), ())
        self.assertEqual(narrow_sides(Web.ring(4), (8, 2)), tuple(sides(4)))
        self.assertEqual(narrow_sides(Web(1, []), (9, 1)), ())


class LeastCut(unittest.TestCase):
    def check(self, web, one, two):
        told = least_cut(web, one, two)
        self.assertEqual((type(told), type(told[1])), (tuple, tuple))
        others = [place for place in range(web.places) if place not in (one, two)]
        found = [tuple(sorted([one, *more])) for count in range(len(others) + 1)
                 for more in combinations(others, count)]
        least = min(cut_of(web, side) for side in found)
        best = [side for side in found if cut_of(web, side) == least]
        fewest = [side for side in best if len(side) == len(best[0])]
        self.assertEqual((number(told[0]), [told[1]]), (least, fewest))

    def test_samples(self):
        for web in sample_webs(5, 60):
            for one in range(web.places):
                for two in range(web.places):
                    if one != two:
                        self.check(web, one, two)

    def test_told_answers(self):
        self.assertEqual(least_cut(Web.ring(4), 0, 2), ((2, 1), (0,)))
        self.assertEqual(least_cut(Web.ring(4), 3, 1), ((2, 1), (3,)))
        # Several least cuts: 1 - 0 - 2 - 3 in a row.
        path = Web(4, [(0, 1, 5), (0, 2, 5), (2, 3, 5)], bottom=3)
        self.assertEqual(least_cut(path, 1, 3), ((5, 3), (1,)))
        self.assertEqual(least_cut(path, 3, 1), ((5, 3), (3,)))
        path = Web(4, [(0, 1, 7), (0, 2, 5), (2, 3, 5)], bottom=3)
        self.assertEqual(least_cut(path, 1, 3), ((5, 3), (0, 1)))
        self.assertEqual(least_cut(path, 3, 1), ((5, 3), (3,)))
        self.assertEqual(least_cut(Web(2, [(0, 1, 2)]), 1, 0), ((2, 1), (1,)))

    def test_between_parts(self):
        self.assertEqual(least_cut(PAIRS, 0, 4), ((0, 1), (0, 1)))
        self.assertEqual(least_cut(PAIRS, 4, 0), ((0, 1), (2, 3, 4)))
        self.assertEqual(least_cut(PAIRS, 5, 3), ((0, 1), (5,)))
        for web in sample_webs(6, 20):
            for part in parts_of(web):
                for two in range(web.places):
                    if two not in part:
                        self.assertEqual(least_cut(web, part[0], two), ((0, 1), part))

    def test_ten_places(self):
        web = random_web(Random(7), 10, 60)
        self.check(web, 0, 9)
        self.check(web, 6, 2)

    def test_the_same_place(self):
        for web, place in [(Web.ring(4), 0), (Web.ring(4), 3), (Web(1, []), 0)]:
            with self.assertRaises(SamePlace) as caught:
                least_cut(web, place, place)
            self.assertEqual(caught.exception.place, place)


class CutRange(unittest.TestCase):
    def check(self, one, two):
        ratios = [(cut_of(two, side) / cut_of(one, side), side) for side in all_sides(one.places)
                  if cut_of(one, side) > 0]
        told = cut_range(one, two)
        if not ratios:
            self.assertIsNone(told)
            return
        least, greatest = min(x for x, _ in ratios), max(x for x, _ in ratios)
        expected = tuple(next((x, side) for x, side in ratios if x == wanted) for wanted in (least, greatest))
        self.assertEqual(tuple((number(ratio), side) for ratio, side in told), expected)
        self.assertTrue(all(type(part) is tuple for part in (told, *told, told[0][1], told[1][1])))

    def test_samples(self):
        random = Random(8)
        for at in range(80):
            places = at % 7
            self.check(random_web(random, places, random.randint(0, 8), strength=2),
                       random_web(random, places, random.randint(0, 8), strength=2))

    def test_told_answers(self):
        self.assertEqual(cut_range(Web.complete(3), Web(3, [(0, 1, 2), (1, 2, 2)])),
                         (((1, 1), (0,)), ((2, 1), (0, 2))))
        # Many sides have the same ratio.
        self.assertEqual(cut_range(Web.ring(4), Web.ring(4, strength=3)), (((3, 1), (0,)), ((3, 1), (0,))))
        # Sides whose cut is 0 in the first web do not count, also if it is above 0 in the second one.
        self.assertEqual(cut_range(Web(3, [(0, 1, 2)]), Web(3, [(0, 2, 7), (0, 1, 1)], bottom=3)),
                         (((1, 6), (0, 2)), ((4, 3), (0,))))
        self.assertEqual(cut_range(Web(3, [(0, 1, 2)]), Web(3, [])), (((0, 1), (0,)), ((0, 1), (0,))))

    def test_none(self):
        for places in (0, 1, 2, 5):
            self.assertIsNone(cut_range(Web(places, []), Web.ring(places)))

    def test_sizes_differ(self):
        for one, two in [(0, 1), (3, 2), (2, 3), (10, 9)]:
            for first, second in ((Web(one, []), Web(two, [])), (Web.ring(one), Web.ring(two))):
                with self.assertRaises(SizesDiffer) as caught:
                    cut_range(first, second)
                self.assertEqual((caught.exception.one, caught.exception.two), (one, two))

    def test_ten_places_and_long_numbers(self):
        random = Random(9)
        one = random_web(random, 10, 60, strength=HUGE, bottom=HUGE)
        self.check(one, random_web(random, 10, 50, strength=HUGE, bottom=HUGE))


if __name__ == "__main__":
    unittest.main()
