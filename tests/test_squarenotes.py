import unittest
from random import Random

from fourcords.judging import is_squares, judge
from fourcords.squarenotes import format_squares, parse_squares
from notechecks import ABOVE_0, NUMBER_300, SIGNED, WHOLE, Notes, fault_of
from reference import random_row, sample_forms

LONG = ((NUMBER_300, NUMBER_300 + 1, (-NUMBER_300, 0, 1)),)


class SquareNotes(Notes, unittest.TestCase):
    write = staticmethod(format_squares)
    read = staticmethod(parse_squares)

    def samples(self):
        random = Random(6)
        told = [tuple((random.randint(1, 12), random.randint(1, 12), random_row(random, size, 3)) for _ in range(count))
                for size in (0, 1, 2, 10) for count in (1, 2, 4)]
        return told + [(), ((2, 4, (1, 0)),), ((1, 1, ()),) * 60, ((6, 3, (0,) * 10),) * 60, LONG]

    def expected_fault(self, text):
        def fits(numbers, more=None):
            return numbers[0] <= 60 and numbers[1] <= 10 and (numbers[0] > 0 or numbers[1] == 0)
        return fault_of(text, f"squares {WHOLE} size {WHOLE}",
                        lambda numbers: f"{ABOVE_0}/{ABOVE_0} of(?: {SIGNED}){{{numbers[1]}}}", fits)

    def test_told_answers(self):
        self.assertEqual(format_squares(((1, 2, (2, 1)),)), "squares 1 size 2\n1/2 of 2 1\n")
        self.assertEqual(format_squares([[3, 2, [1, 0, -1]], [1, 1, [0, 0, 0]]]),
                         "squares 2 size 3\n3/2 of 1 0 -1\n1/1 of 0 0 0\n")
        self.assertEqual(format_squares(()), "squares 0 size 0\n")
        self.assertEqual(format_squares([]), "squares 0 size 0\n")
        self.assertEqual(format_squares(((1, 1, ()), (3, 1, ()))), "squares 2 size 0\n1/1 of\n3/1 of\n")
        told = parse_squares("squares 2 size 3\n3/2 of 1 0 -1\n1/1 of 0 0 0\n")
        self.assertEqual(told, ((3, 2, (1, 0, -1)), (1, 1, (0, 0, 0))))
        self.assertEqual((type(told), type(told[0]), type(told[0][2])), (tuple, tuple, tuple))
        self.assertEqual(parse_squares("squares 0 size 0\n"), ())
        self.assertEqual(parse_squares("squares 2 size 0\n1/1 of\n3/1 of\n"), ((1, 1, ()), (3, 1, ())))

    def test_tops_and_bottoms_stay_as_they_are(self):
        for squares in [((2, 4, (2, 6)),), ((10, 5, (0,)),), ((7, 7, ()),), ((4, 2, (1,)), (6, 2, (3,)))]:
            self.assertEqual(parse_squares(format_squares(squares)), squares)
        self.assertEqual(parse_squares("squares 1 size 1\n10/4 of 8\n"), ((10, 4, (8,)),))

    def test_first_lines(self):
        self.check_faults([(text + "3/2 of 1 1 1\n", 1) for text in (
            "squares -1 size 3\n", "squares 1 size -3\n", "squares 01 size 3\n", "squares 1 size 03\n", "squares -0 size 3\n",
            "squares  1 size 3\n", "squares 1  size 3\n", "squares 1 size 3 \n", " squares 1 size 3\n", "squares1 size 3\n",
            "Squares 1 size 3\n", "square 1 size 3\n", "squares 1\n", "squares 1 size\n", "squares 1 size 3 over 1\n",
            "squares 61 size 3\n", "squares 1 size 11\n", "squares 0 size 3\n", "squares 1 size +3\n", "size 3 squares 1\n")])
        self.check_faults([("squares 0 size 1\n", 1), ("squares 0 size 10\n", 1), ("squares 0 size 0\n", None)])
        for count, size, line in [(60, 10, None), (61, 10, 1), (60, 11, 1)]:
            self.assertEqual(self.fault(f"squares {count} size {size}\n" + f"1/1 of{' 1' * size}\n" * count), line)

    def test_lines_of_squares(self):
        lines = ["0/2 of 1 1", "3/0 of 1 1", "-3/2 of 1 1", "3/-2 of 1 1", "03/2 of 1 1", "3/02 of 1 1", "3 /2 of 1 1",
                 "3/ 2 of 1 1", "3/2  of 1 1", "3/2 of  1 1", "3/2 of 1  1", "3/2 of 1 1 ", " 3/2 of 1 1", "3/2of 1 1",
                 "3/2 of1 1", "3/2 of 1", "3/2 of 1 1 1", "3/2 of", "3/2 1 1", "3/2", "3 of 1 1", "3/2/1 of 1 1", "/2 of 1 1",
                 "3/ of 1 1", "3/2 Of 1 1", "3/2 on 1 1", "3/2 of 1 -0", "3/2 of 1 01", "3/2 of 1 -01", "3/2 of 1 +1", "",
                 "3/2 of 1 -", "3/2 of 1 1.0", "3/2: of 1 1", "3/2 of: 1 1", "of 3/2 1 1", "3_0/2 of 1 1"]
        for line in lines:
            self.check_faults([(f"squares 1 size 2\n{line}\n", 2), (f"squares 2 size 2\n1/1 of 0 0\n{line}\n", 3),
                               (f"squares 3 size 2\n1/1 of 0 0\n{line}\n1/1\n", 3)])
        self.check_faults([("squares 1 size 0\n3/2 of \n", 2), ("squares 1 size 0\n3/2 of 0\n", 2),
                           ("squares 1 size 0\n3/2\n", 2), ("squares 1 size 0\n3/2 \n", 2), ("squares 1 size 0\n3/2 o\n", 2)])

    def test_squares_of_forms(self):
        for form in sample_forms(7):
            squares = judge(form).squares
            told = parse_squares(format_squares(squares))
            self.assertEqual(told, squares)
            self.assertTrue(is_squares(form, told))

    def test_long_numbers(self):
        text = f"squares 1 size 3\n{NUMBER_300}/{NUMBER_300 + 1} of -{NUMBER_300} 0 1\n"
        self.assertEqual(format_squares(LONG), text)
        self.assertEqual(parse_squares(text), LONG)


if __name__ == "__main__":
    unittest.main()
