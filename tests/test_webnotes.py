import re
import unittest
from math import gcd
from random import Random

from fourcords.thinwebs import thinned_web
from fourcords.webnotes import format_web, parse_web
from fourcords.webs import Web
from notechecks import ABOVE_0, NUMBER_300, WHOLE, Notes, fault_of
from reference import random_web

LONG = Web(10, [(9, 0, NUMBER_300), (3, 4, NUMBER_300 + 2)], bottom=NUMBER_300 + 1)


class WebNotes(Notes, unittest.TestCase):
    write = staticmethod(format_web)
    read = staticmethod(parse_web)

    def samples(self):
        random = Random(3)
        told = [random_web(random, places, count) for places in (2, 3, 10) for count in (0, 1, 2, 5)]
        return told + [Web(0, []), Web(1, []), Web(10, []), Web.grid(2, 2), Web.complete(10), Web(2, [(0, 1, 7)] * 60), LONG,
                       thinned_web(Web.complete(4))]

    def expected_fault(self, text):
        def fits(numbers, more=None):
            if more is None:
                return numbers[0] <= 60 and numbers[1] <= 10
            return more[0] < more[1] < numbers[1]
        fault = fault_of(text, f"web {WHOLE} places {WHOLE} over {ABOVE_0}",
                         lambda numbers: f"{WHOLE}-{WHOLE}: {ABOVE_0}", fits)
        if fault is None:
            bottom = int(text.split("\n")[0].split(" ")[5])
            strengths = [int(word) for word in re.findall(": ([0-9]+)", text)]
            fault = None if gcd(bottom, *strengths) == 1 else 1
        return fault

    def test_told_answers(self):
        self.assertEqual(format_web(Web(3, [(2, 0, 5)])), "web 1 places 3 over 1\n0-2: 5\n")
        self.assertEqual(format_web(Web(4, [(2, 0, 6), (0, 1, 4), (3, 0, 10)], bottom=8)),
                         "web 3 places 4 over 4\n0-2: 3\n0-1: 2\n0-3: 5\n")
        self.assertEqual(format_web(Web(0, [])), "web 0 places 0 over 1\n")
        self.assertEqual(format_web(Web(10, [], bottom=9)), "web 0 places 10 over 1\n")
        web = parse_web("web 2 places 3 over 2\n0-2: 5\n1-2: 10\n")
        self.assertIsInstance(web, Web)
        self.assertEqual((web.places, web.ties, web.bottom), (3, ((0, 2, 5), (1, 2, 10)), 2))

    def test_first_lines(self):
        self.check_faults([(text + "0-2: 7\n", 1) for text in (
            "web 1 places 3 over 0\n", "web 1 places 3 over -1\n", "web -1 places 3 over 1\n", "web 1 places -3 over 1\n",
            "web 01 places 3 over 1\n", "web 1 places 03 over 1\n", "web 1 places 3 over 01\n", "web -0 places 3 over 1\n",
            "web  1 places 3 over 1\n", "web 1 places 3  over 1\n", "web 1 places 3 over 1 \n", "web1 places 3 over 1\n",
            "web 1 size 3 over 1\n", "rows 1 size 3 over 1\n", "web 1 places 3\n", "web 1 places 11 over 1\n",
            "web 61 places 3 over 1\n", "web 1 places 3 over 1 1\n", "webs 1 places 3 over 1\n")])
        for count, places, line in [(60, 10, None), (61, 10, 1), (60, 11, 1)]:
            self.assertEqual(self.fault(f"web {count} places {places} over 1\n" + "0-9: 1\n" * count), line)

    def test_lines_of_ties(self):
        lines = ["2-0: 7", "1-1: 7", "0-3: 7", "0-10: 7", "3-4: 7", "-1-2: 7", "0--2: 7", "0-2: 0", "0-2: -7", "0-2: 07",
                 "00-2: 7", "0-02: 7", "0-2:7", "0-2:  7", "0-2: 7 ", " 0-2: 7", "0 -2: 7", "0- 2: 7", "0-2 : 7", "0-2",
                 "0-2:", "0-2: ", "0 2: 7", "0-2-1: 7", "0-2: 7: 7", "0-2: 7 7", "-2: 7", "0-: 7", "-0-2: 7", "", "0-2; 7",
                 "0_0-2: 7", "0-2: +7", "0-2: 7.0", "7: 0-2"]
        for line in lines:
            self.check_faults([(f"web 1 places 3 over 1\n{line}\n", 2), (f"web 2 places 3 over 1\n0-1: 9\n{line}\n", 3),
                               (f"web 3 places 3 over 1\n0-1: 9\n{line}\n0-0: 9\n", 3)])
        self.check_faults([("web 1 places 0 over 1\n0-1: 7\n", 2), ("web 1 places 1 over 1\n0-1: 7\n", 2),
                           ("web 1 places 3 over 1\n1-2: 7\n", None), (f"web 1 places 3 over 1\n0-{NUMBER_300}: 7\n", 2)])

    def test_lowest_terms(self):
        self.check_faults([("web 1 places 3 over 2\n0-2: 2\n", 1), ("web 2 places 3 over 6\n0-2: 2\n0-1: 4\n", 1),
                           ("web 2 places 3 over 6\n0-2: 2\n0-1: 3\n", None), ("web 0 places 3 over 2\n", 1),
                           ("web 0 places 3 over 1\n", None), ("web 1 places 3 over 2\n2-0: 2\n", 2),
                           ("web 1 places 3 over 2\n0-2: 2\n\n", 3), ("web 2 places 3 over 2\n0-2: 2\n", 3)])

    def test_long_numbers(self):
        self.assertEqual(format_web(LONG), f"web 2 places 10 over {NUMBER_300 + 1}\n0-9: {NUMBER_300}\n"
                                           f"3-4: {NUMBER_300 + 2}\n")
        self.assertTrue(parse_web(format_web(LONG)) == LONG)


if __name__ == "__main__":
    unittest.main()
