import re
import unittest
from math import gcd
from random import Random

from fourcords.rownotes import format_rows, parse_rows
from fourcords.rowlists import RowList
from fourcords.thinning import thinned
from notechecks import ABOVE_0, NUMBER_300, SIGNED, WHOLE, Notes, fault_of
from reference import random_rows

LONG = RowList(2, [((NUMBER_300, -NUMBER_300), NUMBER_300), ((0, -1), NUMBER_300 + 2)], bottom=NUMBER_300 + 1)
TWO = "rows 2 size 3 over 12\n5: 1 -1 0\n1: 0 0 10\n"


class RowNotes(Notes, unittest.TestCase):
    write = staticmethod(format_rows)
    read = staticmethod(parse_rows)

    def samples(self):
        random = Random(2)
        told = [random_rows(random, size, count) for size in (0, 1, 3, 10) for count in (0, 1, 2, 4)]
        full = RowList(10, [((1,) * 10, at + 1) for at in range(60)], bottom=7)
        return told + [LONG, full, thinned(random_rows(random, 2, 12)), RowList(0, [((), 3), ((), 2)], bottom=5)]

    def expected_fault(self, text):
        def fits(numbers, more=None):
            return numbers[0] <= 60 and numbers[1] <= 10
        fault = fault_of(text, f"rows {WHOLE} size {WHOLE} over {ABOVE_0}",
                         lambda numbers: f"{ABOVE_0}:(?: {SIGNED}){{{numbers[1]}}}", fits)
        if fault is None:
            bottom = int(text.split("\n")[0].split(" ")[5])
            weights = [int(word) for word in re.findall("([0-9]+):", text)]
            fault = None if gcd(bottom, *weights) == 1 else 1
        return fault

    def test_told_answers(self):
        self.assertEqual(format_rows(RowList(2, [((1, -1), 3)], bottom=4)), "rows 1 size 2 over 4\n3: 1 -1\n")
        self.assertEqual(format_rows(RowList(3, [[[1, -1, 0], 5], [[0, 0, 10], 1]], bottom=12)), TWO)
        self.assertEqual(format_rows(RowList(2, [((1, -1), 6), ((0, 2), 4)], bottom=8)),
                         "rows 2 size 2 over 4\n3: 1 -1\n2: 0 2\n")
        self.assertEqual(format_rows(RowList(0, [])), "rows 0 size 0 over 1\n")
        self.assertEqual(format_rows(RowList(10, [])), "rows 0 size 10 over 1\n")
        self.assertEqual(format_rows(RowList(0, [((), 3)], bottom=2)), "rows 1 size 0 over 2\n3:\n")
        rows = parse_rows(TWO)
        self.assertIsInstance(rows, RowList)
        self.assertEqual((rows.size, rows.pairs, rows.bottom), (3, (((1, -1, 0), 5), ((0, 0, 10), 1)), 12))
        self.assertTrue(parse_rows("rows 1 size 0 over 2\n3:\n") == RowList(0, [((), 3)], bottom=2))

    def test_first_lines(self):
        self.check_faults([(text + "1: 1 1 1\n", 1) for text in (
            "rows 1 size 3 over 0\n", "rows 1 size 3 over -1\n", "rows -1 size 3 over 1\n", "rows 1 size -3 over 1\n",
            "rows 01 size 3 over 1\n", "rows 1 size 03 over 1\n", "rows 1 size 3 over 01\n", "rows -0 size 3 over 1\n",
            "rows  1 size 3 over 1\n", "rows 1 size  3 over 1\n", "rows 1 size 3 over 1 \n", "rows1 size 3 over 1\n",
            "Rows 1 size 3 over 1\n", "rows 1 over 1 size 3\n", "rows 1 size 3\n", "rows 1 size 3 over\n",
            "rows 1 size 3 over 1 1\n", "rows 1 size 11 over 1\n", "rows 61 size 3 over 1\n", "rows +1 size 3 over 1\n",
            "web 1 places 3 over 1\n", "rows one size 3 over 1\n", "rows 1 size 3 over 1.\n", "rows 1_0 size 3 over 1\n")])
        self.assertEqual(self.fault(f"rows 1 size {NUMBER_300} over 1\n1: 1\n"), 1)
        self.assertEqual(self.fault(f"rows {NUMBER_300} size 1 over 1\n1: 1\n"), 1)
        # At the limits and one beyond.
        for count, size, line in [(60, 10, None), (61, 10, 1), (60, 11, 1)]:
            text = f"rows {count} size {size} over 1\n" + f"1:{' 1' * size}\n" * count
            self.assertEqual(self.fault(text), line)

    def test_lines_of_pairs(self):
        lines = ["0: 1 1", "-1: 1 1", "01: 1 1", "1 : 1 1", "1:1 1", "1:  1 1", "1: 1  1", "1: 1 1 ", " 1: 1 1", "1 1 1",
                 "1:", "1: 1", "1: 1 1 1", ": 1 1", "1: 1 -0", "1: 1 01", "1: 1 -01", "1: 1 +1", "1: 1 --1", "1: 1 -",
                 "1: 1 1-", "1:: 1 1", "1; 1 1", "", "1: 1 1.0", "1: 1, 1", "1: 1_0 1", "1/1: 1 1", "+1: 1 1", "1: 1:1"]
        for line in lines:
            self.check_faults([(f"rows 1 size 2 over 1\n{line}\n", 2), (f"rows 2 size 2 over 1\n1: 2 3\n{line}\n", 3),
                               (f"rows 3 size 2 over 1\n1: 2 3\n{line}\n0: 1 1\n", 3)])
        self.check_faults([("rows 1 size 0 over 1\n1: \n", 2), ("rows 1 size 0 over 1\n1: 0\n", 2),
                           ("rows 1 size 0 over 1\n1\n", 2), ("rows 1 size 2 over 1\n7: -10 0\n", None)])

    def test_lowest_terms(self):
        self.check_faults([("rows 1 size 1 over 2\n2: 1\n", 1), ("rows 2 size 1 over 6\n2: 1\n4: 1\n", 1),
                           ("rows 2 size 1 over 6\n2: 1\n3: 1\n", None), ("rows 0 size 3 over 2\n", 1),
                           ("rows 0 size 3 over 1\n", None), ("rows 1 size 1 over 1\n6: 2\n", None),
                           # The rows make no difference; other faults come first.
                           ("rows 1 size 1 over 2\n1: 2\n", None), ("rows 1 size 1 over 2\n2: 1 1\n", 2),
                           ("rows 1 size 1 over 2\n2: 1\n\n", 3), ("rows 2 size 1 over 2\n2: 1\n", 3),
                           ("rows 0 size 3 over 2\n ", 2)])

    def test_long_numbers(self):
        text = format_rows(LONG)
        self.assertEqual(text, f"rows 2 size 2 over {NUMBER_300 + 1}\n{NUMBER_300}: {NUMBER_300} -{NUMBER_300}\n"
                               f"{NUMBER_300 + 2}: 0 -1\n")
        self.assertTrue(parse_rows(text) == LONG)


if __name__ == "__main__":
    unittest.main()
