import unittest
from random import Random

from fourcords.judging import free_points, leads, rank
from fourcords.parts import parts
from fourcords.webs import Web
from reference import parts_of, random_web, sample_webs


class Parts(unittest.TestCase):
    def check(self, web):
        told = parts(web)
        self.assertIs(type(told), tuple)
        self.assertTrue(all(type(part) is tuple for part in told))
        self.assertEqual(told, parts_of(web))
        self.assertEqual(rank(web.rows.form), web.places - len(told))
        ends = sorted(part[-1] for part in told)
        self.assertEqual(leads(web.form), tuple(place for place in range(web.places) if place not in ends))
        points = [tuple(int(place in part) for place in range(web.places))
                  for part in sorted(told, key=lambda part: part[-1])]
        self.assertEqual(free_points(web.form), tuple(points))

    def test_samples(self):
        for web in sample_webs(1, 60):
            self.check(web)
        random = Random(2)
        for _ in range(30):
            self.check(random_web(random, 10, random.randint(0, 12)))

    def test_told_answers(self):
        self.assertEqual(parts(Web(4, [(3, 1, 2)])), ((0,), (1, 3), (2,)))
        self.assertEqual(parts(Web(0, [])), ())
        self.assertEqual(parts(Web(3, [])), ((0,), (1,), (2,)))
        self.assertEqual(parts(Web.complete(4)), ((0, 1, 2, 3),))
        self.assertEqual(parts(Web(5, [(4, 0, 1), (3, 1, 1), (0, 4, 2)])), ((0, 4), (1, 3), (2,)))
        # Parts that grow together late, by their last places.
        self.assertEqual(parts(Web(6, [(4, 5, 1), (2, 3, 1), (0, 1, 1), (3, 5, 1), (1, 4, 1)])), ((0, 1, 2, 3, 4, 5),))
        self.assertEqual(parts(Web(6, [(1, 5, 1), (2, 4, 1), (4, 5, 1), (0, 3, 1)])), ((0, 3), (1, 2, 4, 5)))


if __name__ == "__main__":
    unittest.main()
