import unittest
from fractions import Fraction
from math import prod
from random import Random

from fourcords.comparing import within
from fourcords.currents import heights
from fourcords.grades import grade_factor
from fourcords.losses import least_loss
from fourcords.parts import parts
from fourcords.resistances import forest_weight, resistance, tie_shares
from fourcords.shares import shares
from fourcords.thinwebs import thinned_web
from fourcords.webs import Web
from reference import (HUGE, at_row, balanced, forests_of, inverse_of, matrix, number, parts_of, random_web,
                       sample_webs, strength_of)

LOOSE = Web(5, [(0, 3, 2), (1, 4, 3), (0, 3, 1)], bottom=2)


def table(web):
    """The resistance between any two places, told by the program."""
    return {(one, two): resistance(web, one, two) for one in range(web.places) for two in range(web.places)}


class Resistance(unittest.TestCase):
    def test_samples(self):
        for web in sample_webs(1):
            turned, found = inverse_of(matrix(web.form)), parts_of(web)
            for (one, two), told in table(web).items():
                if not any(one in part and two in part for part in found):
                    self.assertIsNone(told)
                    continue
                row = [0] * web.places
                row[one] += 1
                row[two] -= 1
                self.assertEqual(number(told), at_row(turned, row))
                self.assertEqual(told, least_loss(web, (row, 1)))
                self.assertEqual(told == (0, 1), one == two)
                self.assertEqual(told, resistance(web, two, one))

    def test_told_answers(self):
        self.assertEqual(resistance(Web.complete(3), 0, 1), (2, 3))
        self.assertEqual([resistance(Web.ring(4), 0, place) for place in range(4)], [(0, 1), (3, 4), (1, 1), (3, 4)])
        self.assertEqual(table(LOOSE)[0, 3], (2, 3))
        self.assertEqual([resistance(LOOSE, one, two) for one, two in ((4, 1), (3, 0), (2, 2), (0, 1), (2, 4), (4, 2))],
                         [(2, 3), (2, 3), (0, 1), None, None, None])
        # In a row strengths join to a resistance, beside one another they add up.
        self.assertEqual(resistance(Web(3, [(0, 2, 2), (1, 2, 3)]), 1, 0), (5, 6))
        self.assertEqual(resistance(Web(2, [(0, 1, 2), (1, 0, 3)], bottom=6), 1, 0), (6, 5))
        self.assertEqual(resistance(Web(1, []), 0, 0), (0, 1))

    def test_over_a_third_place(self):
        for web in sample_webs(2, 20):
            told = table(web)
            for one, two in told:
                for part in parts_of(web):
                    if one in part and two in part:
                        for third in part:
                            self.assertLessEqual(number(told[one, two]),
                                                 number(told[one, third]) + number(told[third, two]))

    def test_more_ties_and_greater_strengths(self):
        random = Random(3)
        for web in sample_webs(4, 30):
            if web.places < 2:
                continue
            more = Web(web.places, [*web.ties, (*random.sample(range(web.places), 2), random.randint(1, 9))],
                       bottom=web.bottom)
            raised = [more]
            for at in range(min(len(web), 2)):
                ties = [(one, two, strength + (at == k)) for k, (one, two, strength) in enumerate(web.ties)]
                raised.append(Web(web.places, ties, bottom=web.bottom))
            before = table(web)
            for other in raised:
                for ends, told in table(other).items():
                    if before[ends] is not None:
                        self.assertLessEqual(number(told), number(before[ends]))

    def test_long_numbers(self):
        web = random_web(Random(5), 10, 60, strength=HUGE, bottom=HUGE)
        one, two, _ = web.ties[0]
        row = [(place == one) - (place == two) for place in range(10)]
        levels, bottom = heights(web, (row, 1))
        self.assertEqual(number(resistance(web, one, two)), Fraction(levels[one] - levels[two], bottom))


class TieShares(unittest.TestCase):
    def test_samples(self):
        for web in sample_webs(6):
            told = tie_shares(web)
            self.assertIs(type(told), tuple)
            self.assertEqual(told, shares(web.rows))
            self.assertEqual([number(share) for share in told],
                             [strength_of(web, tie) * number(resistance(web, *tie[:2])) for tie in web])
            self.assertEqual(sum(map(number, told)), web.places - len(parts_of(web)))

    def test_told_answers(self):
        self.assertEqual(tie_shares(Web.complete(3)), ((2, 3), (2, 3), (2, 3)))
        self.assertEqual(tie_shares(LOOSE), ((2, 3), (1, 1), (1, 3)))
        for places in (0, 1, 4):
            self.assertEqual(tie_shares(Web(places, [])), ())


class Forests(unittest.TestCase):
    def check(self, web):
        weights = {forest: prod((strength_of(web, web.ties[at]) for at in forest), start=Fraction(1))
                   for forest in forests_of(web)}
        total = sum(weights.values())
        self.assertEqual(number(forest_weight(web)), total)
        for at, share in enumerate(tie_shares(web)):
            self.assertEqual(number(share), sum(x for forest, x in weights.items() if at in forest) / total)

    def test_samples(self):
        random = Random(7)
        for places in (0, 1, 2, 3, 4, 5):
            for _ in range(6):
                self.check(random_web(random, places, random.randint(0, 8)))
        self.check(LOOSE)
        self.check(Web(3, [(0, 1, 1), (1, 0, 2), (0, 1, 3), (2, 1, 5)], bottom=6))

    def test_told_answers(self):
        self.assertEqual(forest_weight(Web.complete(3)), (3, 1))
        self.assertEqual(forest_weight(Web.complete(10)), (10 ** 8, 1))
        self.assertEqual(forest_weight(Web.complete(4, strength=2)), (128, 1))
        self.assertEqual(forest_weight(Web.ring(6)), (6, 1))
        self.assertEqual(forest_weight(Web.grid(3, 3)), (192, 1))
        self.assertEqual(forest_weight(LOOSE), (9, 4))
        # Two ties in a row, each with the strength 1/2; two beside one another, each with 1/2.
        self.assertEqual(forest_weight(Web(3, [(0, 1, 1), (1, 2, 1)], bottom=2)), (1, 4))
        self.assertEqual(forest_weight(Web(2, [(0, 1, 1), (0, 1, 1)], bottom=2)), (1, 1))
        for places in (0, 1, 5):
            self.assertEqual(forest_weight(Web(places, [])), (1, 1))


class ThinnedWebs(unittest.TestCase):
    """Point 64."""

    def check(self, random, web, grade):
        few, factor = thinned_web(web, grade=grade), number(grade_factor(grade))
        for _ in range(4):
            demand = balanced(random, web), random.randint(1, 6)
            first, second = number(least_loss(web, demand)), number(least_loss(few, demand))
            if any(demand[0]):
                self.assertTrue(second < first < factor * second)
            else:
                self.assertEqual((first, second), (0, 0))
        told = table(few)
        for ends, first in table(web).items():
            if first is None:
                self.assertIsNone(told[ends])
            elif ends[0] != ends[1]:
                self.assertTrue(number(told[ends]) < number(first) < factor * number(told[ends]))

    def test_samples(self):
        random = Random(8)
        for web in sample_webs(9, 24, top_places=5):
            self.check(random, web, 2)
            if web.places < 5:
                self.check(random, web, random.choice([3, 4, 5]))
        self.check(random, Web.complete(7), 2)
        self.check(random, Web.ring(3), 7)

    def test_the_forms_and_the_losses(self):
        random = Random(10)
        held = broken = 0
        for _ in range(150):
            web = random_web(random, random.randint(2, 5), random.randint(1, 7))
            other = Web(web.places, [(one, two, strength + random.randint(-1, 5)) if strength > 1 else (one, two, 3)
                                     for one, two, strength in web], bottom=web.bottom)
            self.assertEqual(parts(web), parts(other))
            factor = random.randint(4, 16), 4
            answer = within(web.form, other.form, (1, 1), factor)
            if answer.holds:
                held += 1
                demands = [(balanced(random, web), 3) for _ in range(4)]
            else:
                # The demand that has the broken point as its heights breaks the losses, too.
                broken += 1
                demands = [(web if answer.side == "under" else other).form.applied((answer.point, 1))]
            kept = [number(least_loss(other, demand)) <= number(least_loss(web, demand))
                    <= Fraction(*factor) * number(least_loss(other, demand)) for demand in demands]
            self.assertEqual(all(kept), answer.holds)
        self.assertGreater(min(held, broken), 20)


if __name__ == "__main__":
    unittest.main()
