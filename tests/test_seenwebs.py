import unittest
from itertools import permutations
from random import Random

from fourcords.comparing import within
from fourcords.grades import grade_factor
from fourcords.judging import judge, rank
from fourcords.resistances import resistance
from fourcords.seen import seen_from
from fourcords.seenwebs import seen_web
from fourcords.thinwebs import thinned_web
from fourcords.webs import Web
from reference import HUGE, matrix, parts_of, random_web, sample_webs

LOOSE = Web(5, [(0, 3, 2), (1, 4, 3), (0, 3, 1)], bottom=2)


class SeenWeb(unittest.TestCase):
    def check(self, web, places):
        told = seen_web(web, places)
        self.assertIsInstance(told, Web)
        self.assertEqual(told.places, len(places))
        self.assertTrue(told.form == seen_from(web.form, places))
        ends = [tie[:2] for tie in told]
        self.assertEqual(ends, sorted(set(ends)))
        entries = matrix(seen_from(web.form, places))
        for i in range(len(places)):
            for j in range(i + 1, len(places)):
                self.assertLessEqual(entries[i][j], 0)
                self.assertEqual((i, j) in ends, entries[i][j] < 0)
        found = parts_of(web)
        together = {(one, two) for part in parts_of(told) for one in part for two in part}
        for i, one in enumerate(places):
            for j, two in enumerate(places):
                self.assertEqual((i, j) in together, any(one in part and two in part for part in found))
                self.assertEqual(resistance(told, i, j), resistance(web, one, two))

    def test_samples(self):
        random = Random(1)
        for web in sample_webs(2):
            for _ in range(3):
                self.check(web, random.sample(range(web.places), random.randint(0, web.places)))

    def test_all_and_none(self):
        for web in sample_webs(3, 15):
            self.assertTrue(seen_web(web, ()) == Web(0, []))
            every = seen_web(web, list(range(web.places)))
            self.assertTrue(every.form == web.form)
            self.check(web, tuple(reversed(range(web.places))))

    def test_told_answers(self):
        self.assertEqual(seen_web(Web.ring(4), (0, 2)).ties, ((0, 1, 1),))
        # The order of the sequence numbers the places.
        path = Web(4, [(0, 1, 2), (1, 2, 3), (2, 3, 6)])
        self.assertEqual(seen_web(path, [3, 0, 1]).ties, ((0, 2, 2), (1, 2, 2)))
        self.assertEqual(seen_web(path, (0, 1, 3)).ties, ((0, 1, 2), (1, 2, 2)))
        self.assertTrue(seen_web(path, (0, 3)) == Web(2, [(0, 1, 1)]))
        self.assertEqual(seen_web(path, (2,)).ties, ())
        # Ties between the same two places become one; those with no strength between them have none.
        self.assertTrue(seen_web(LOOSE, (4, 3, 2, 1, 0)) == Web(5, [(0, 3, 3), (1, 4, 3)], bottom=2))
        self.assertTrue(seen_web(LOOSE, (2, 0, 1)) == Web(3, []))
        # A star seen from its ends is a triangle, with strengths that are not whole.
        star = Web(4, [(0, 3, 1), (1, 3, 2), (2, 3, 4)])
        self.assertTrue(seen_web(star, (0, 1, 2)) == Web(3, [(0, 1, 2), (0, 2, 4), (1, 2, 8)], bottom=7))
        for places in permutations((0, 1, 2)):
            self.check(star, places)

    def test_the_order_in_which_places_settle_makes_no_difference(self):
        random = Random(4)
        for _ in range(20):
            web = random_web(random, 6, random.randint(4, 12))
            places = random.sample(range(6), 4)
            few = random.sample(range(4), 2)
            self.assertTrue(seen_web(seen_web(web, places), few) == seen_web(web, [places[at] for at in few]))

    def test_long_numbers(self):
        web = random_web(Random(5), 10, 60, strength=HUGE, bottom=HUGE)
        self.check(web, (7, 2, 9))


class SeenThinnedWebs(unittest.TestCase):
    """Point 66."""

    def check(self, random, web, grade):
        places = random.sample(range(web.places), random.randint(0, web.places))
        one, two = seen_web(web, places).form, seen_web(thinned_web(web, grade=grade), places).form
        factor = grade_factor(grade)
        self.assertTrue(within(one, two, (1, 1), factor).holds)
        for gap in (two - one, one.scaled(factor) - two):
            self.assertTrue(judge(gap).holds)
            self.assertEqual(rank(gap), rank(one))

    def test_samples(self):
        random = Random(6)
        for web in sample_webs(7, 25, top_places=5):
            self.check(random, web, 2)
            if web.places < 5:
                self.check(random, web, random.choice([3, 4, 5]))
        self.check(random, Web.complete(8), 2)


if __name__ == "__main__":
    unittest.main()
