import unittest
from fractions import Fraction
from math import gcd
from random import Random

from fourcords.errors import BadRow, BadTie, BadWeight
from fourcords.forms import Form
from fourcords.rowlists import RowList
from fourcords.webs import Web
from reference import HUGE, matrix, sample_webs


class Creating(unittest.TestCase):
    def check_fault(self, error, index, places, ties):
        with self.assertRaises(error) as caught:
            Web(places, ties)
        self.assertEqual(caught.exception.index, index)

    def test_bad_ties(self):
        for one, two in [(0, 0), (2, 2), (0, 3), (3, 0), (-1, 1), (1, -1), (-1, -1), (3, 3), (0, HUGE), (-HUGE, 0)]:
            self.check_fault(BadTie, 0, 3, [(one, two, 1)])
            self.check_fault(BadTie, 2, 3, [(0, 1, 1), (2, 1, 5), (one, two, 7), (0, 0, 0)])
            # A tie with both faults.
            self.check_fault(BadTie, 1, 3, [(0, 1, 1), (one, two, 0)])

    def test_bad_weights(self):
        for strength in (0, -1, -HUGE):
            self.check_fault(BadWeight, 0, 3, [(0, 1, strength)])
            self.check_fault(BadWeight, 1, 3, [(0, 1, 1), (1, 2, strength), (0, 0, 1)])

    def test_the_first_faulty_tie(self):
        self.check_fault(BadWeight, 1, 3, [(0, 1, 1), (0, 1, 0), (1, 1, 1)])
        self.check_fault(BadTie, 1, 3, [(0, 1, 1), (1, 1, 1), (0, 1, 0)])

    def test_no_places_and_one_place(self):
        for places in (0, 1):
            self.assertEqual(Web(places, []).ties, ())
            self.check_fault(BadTie, 0, places, [(0, 1, 1)])
            self.check_fault(BadTie, 0, places, [(0, 0, 1)])
            self.assertTrue(Web(places, ()).form == Form.zero(places))


class Fields(unittest.TestCase):
    def test_told_answers(self):
        web = Web(4, [(3, 1, 4), (0, 1, 6), (1, 3, 10)], bottom=8)
        self.assertEqual((web.places, web.ties, web.bottom), (4, ((1, 3, 2), (0, 1, 3), (1, 3, 5)), 4))
        self.assertTrue(web.rows == RowList(4, [((0, 1, 0, -1), 2), ((1, -1, 0, 0), 3), ((0, 1, 0, -1), 5)], bottom=4))
        self.assertTrue(web.form == web.rows.form)
        self.assertTrue(web.form == Form([[3, -3, 0, 0], [-3, 10, 0, -7], [0, 0, 0, 0], [0, -7, 0, 7]], bottom=4))
        self.assertEqual(Web(3, [(0, 1, 2)]).bottom, 1)

    def test_without_ties_the_bottom_is_1(self):
        for places in (0, 1, 10):
            web = Web(places, [], bottom=6)
            self.assertEqual((web.places, web.ties, web.bottom, len(web), list(web)), (places, (), 1, 0, []))
            self.assertTrue(web.rows == RowList(places, []))
            self.assertTrue(web == Web(places, ()))

    def test_samples(self):
        random = Random(1)
        for _ in range(30):
            places = random.randint(2, 10)
            ties = [(*random.sample(range(places), 2), random.randint(1, 30)) for _ in range(random.randint(1, 60))]
            bottom = random.randint(1, 40)
            web = Web(places, ties, bottom=bottom)
            self.assertEqual(gcd(web.bottom, *[strength for _, _, strength in web.ties]), 1)
            self.assertEqual([(one, two, Fraction(strength, web.bottom)) for one, two, strength in web.ties],
                             [(min(one, two), max(one, two), Fraction(strength, bottom)) for one, two, strength in ties])
            expected = [[Fraction(0)] * places for _ in range(places)]
            for one, two, strength in ties:
                share = Fraction(strength, bottom)
                for i, j, sign in ((one, one, 1), (two, two, 1), (one, two, -1), (two, one, -1)):
                    expected[i][j] += sign * share
            self.assertEqual(matrix(web.form), expected)
            self.assertEqual((len(web), list(web), tuple(web)), (len(ties), list(web.ties), web.ties))

    def test_lists_and_later_changes(self):
        ties = [[2, 0, 4], [1, 2, 6]]
        web = Web(3, ties, bottom=10)
        ties[0][0] = 1
        ties.append([0, 1, 1])
        self.assertEqual(web.ties, ((0, 2, 2), (1, 2, 3)))
        self.assertTrue(all(type(tie) is tuple for tie in web.ties))
        self.assertTrue(web == Web(3, ((2, 0, 2), (1, 2, 3)), bottom=5))
        self.assertTrue(web.rows == RowList(3, [((1, 0, -1), 2), ((0, 1, -1), 3)], bottom=5))

    def test_equal_webs(self):
        web = Web(3, [(0, 1, 1), (1, 2, 2)], bottom=3)
        self.assertTrue(web == Web(3, [(1, 0, 2), (2, 1, 4)], bottom=6))
        self.assertFalse(web != Web(3, [(1, 0, 2), (2, 1, 4)], bottom=6))
        others = [Web(4, [(0, 1, 1), (1, 2, 2)], bottom=3), Web(3, [(1, 2, 2), (0, 1, 1)], bottom=3),
                  Web(3, [(0, 1, 1), (1, 2, 2)]), Web(3, [(0, 1, 1), (0, 2, 2)], bottom=3),
                  Web(3, [(0, 1, 1)], bottom=3), web.rows, web.form, web.ties, None, 3, "web", [], (3, web.ties, 3)]
        for other in others:
            self.assertIs(web == other, False)
            self.assertIs(other == web, False)
            self.assertIs(web != other, True)
        self.assertFalse(Web(0, []) == Web(1, []))

    def test_picked(self):
        web = Web(4, [(0, 1, 2), (1, 2, 4), (2, 3, 3)], bottom=6)
        told = web.picked([2, 0, 2])
        self.assertIsInstance(told, Web)
        self.assertEqual((told.places, told.ties, told.bottom), (4, ((2, 3, 3), (0, 1, 2), (2, 3, 3)), 6))
        self.assertEqual((web.picked((0, 1)).ties, web.picked((0, 1)).bottom), (((0, 1, 1), (1, 2, 2)), 3))
        self.assertTrue(web.picked(()) == Web(4, []))
        self.assertTrue(web.picked(range(3)) == web)
        self.assertTrue(Web(0, []).picked([]) == Web(0, []))
        self.assertEqual(len(Web(2, [(0, 1, 1)]).picked([0] * 60)), 60)


class Made(unittest.TestCase):
    def check(self, web, places, ends, strength=1):
        self.assertIsInstance(web, Web)
        self.assertEqual((web.places, web.bottom), (places, 1))
        self.assertEqual(web.ties, tuple((one, two, strength) for one, two in ends))

    def test_complete(self):
        self.check(Web.complete(0), 0, [])
        self.check(Web.complete(1), 1, [])
        self.check(Web.complete(2), 2, [(0, 1)])
        self.check(Web.complete(3), 3, [(0, 1), (0, 2), (1, 2)])
        self.check(Web.complete(4, strength=5), 4, [(0, 1), (0, 2), (0, 3), (1, 2), (1, 3), (2, 3)], 5)
        self.assertEqual(len(Web.complete(10)), 45)

    def test_ring(self):
        self.check(Web.ring(0), 0, [])
        self.check(Web.ring(1), 1, [])
        self.check(Web.ring(2), 2, [(0, 1)])
        self.check(Web.ring(3), 3, [(0, 1), (1, 2), (0, 2)])
        self.check(Web.ring(4, strength=HUGE), 4, [(0, 1), (1, 2), (2, 3), (0, 3)], HUGE)
        self.check(Web.ring(10), 10, [(k, k + 1) for k in range(9)] + [(0, 9)])

    def test_grid(self):
        self.check(Web.grid(1, 1), 1, [])
        self.check(Web.grid(4, 1), 4, [(0, 1), (1, 2), (2, 3)])
        self.check(Web.grid(1, 4), 4, [(0, 1), (1, 2), (2, 3)])
        self.check(Web.grid(2, 2), 4, [(0, 1), (0, 2), (1, 3), (2, 3)])
        self.check(Web.grid(3, 2, strength=7), 6, [(0, 1), (0, 3), (1, 2), (1, 4), (2, 5), (3, 4), (4, 5)], 7)
        self.check(Web.grid(2, 3), 6, [(0, 1), (0, 2), (1, 3), (2, 3), (2, 4), (3, 5), (4, 5)])
        self.assertEqual(len(Web.grid(5, 2)), 13)

    def test_of_rows(self):
        for web in sample_webs(2):
            self.assertTrue(Web.of_rows(web.rows) == web)
        rows = RowList(3, [((0, -1, 1), 4), ((1, 0, -1), 2), ((-1, 0, 1), 6)], bottom=3)
        told = Web.of_rows(rows)
        self.assertIsInstance(told, Web)
        self.assertEqual((told.places, told.ties, told.bottom), (3, ((1, 2, 4), (0, 2, 2), (0, 2, 6)), 3))
        self.assertTrue(told.form == rows.form)
        self.assertTrue(Web.of_rows(RowList(7, [])) == Web(7, []))

    def test_bad_rows(self):
        good = ((0, 1, -1), 1)
        faults = [(0, 0, 0), (1, 0, 0), (0, 0, -1), (1, 1, 0), (-1, -1, 0), (2, -2, 0), (1, -2, 0), (1, -1, 1),
                  (-1, 1, -1), (1, -1, 5), (2, -1, -1), (0, 10 ** 12, 0)]
        for row in faults:
            for index in (0, 1, 3):
                pairs = [good] * index + [(row, 1), good, ((7, 7, 7), 1)]
                with self.assertRaises(BadRow) as caught:
                    Web.of_rows(RowList(3, pairs))
                self.assertEqual(caught.exception.index, index)
        with self.assertRaises(BadRow) as caught:
            Web.of_rows(RowList(0, [((), 1)]))
        self.assertEqual(caught.exception.index, 0)
        with self.assertRaises(BadRow):
            Web.of_rows(RowList(1, [((1,), 1)]))


if __name__ == "__main__":
    unittest.main()
