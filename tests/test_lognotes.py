import unittest
from random import Random

from fourcords.lognotes import format_log, parse_log
from fourcords.runs import resumed
from fourcords.thinning import thinned_run
from notechecks import NUMBER_300, WHOLE, Notes, fault_of
from reference import random_rows


class LogNotes(Notes, unittest.TestCase):
    write = staticmethod(format_log)
    read = staticmethod(parse_log)

    def samples(self):
        random = Random(4)
        told = [tuple((random.randint(0, 12), random.choice([0, 1, 10, 12345])) for _ in range(count)) for count in range(6)]
        return told + [(), ((0, 0),), ((0, 10),), ((1, 2),) * 100, ((NUMBER_300, NUMBER_300 + 2),),
                       thinned_run(random_rows(random, 2, 9)).log]

    def expected_fault(self, text):
        def fits(numbers, more=None):
            return numbers[0] <= 100
        return fault_of(text, f"log {WHOLE}", lambda numbers: f"take {WHOLE} by {WHOLE}", fits)

    def test_told_answers(self):
        self.assertEqual(format_log(((0, 10),)), "log 1\ntake 0 by 10\n")
        self.assertEqual(format_log([[2, 15], [0, 0]]), "log 2\ntake 2 by 15\ntake 0 by 0\n")
        self.assertEqual(format_log([]), "log 0\n")
        self.assertEqual(parse_log("log 2\ntake 2 by 15\ntake 0 by 0\n"), ((2, 15), (0, 0)))
        self.assertEqual(parse_log("log 0\n"), ())
        told = parse_log(f"log 1\ntake {NUMBER_300} by {NUMBER_300 + 1}\n")
        self.assertEqual(told, ((NUMBER_300, NUMBER_300 + 1),))
        self.assertEqual((type(told), type(told[0])), (tuple, tuple))

    def test_first_lines(self):
        self.check_faults([(text + "take 2 by 15\n", 1) for text in (
            "log -1\n", "log 01\n", "log -0\n", "log  1\n", "log 1 \n", " log 1\n", "log1\n", "Log 1\n", "log\n", "log 1 1\n",
            "log one\n", "log 1.\n", "log +1\n", "logs 1\n", "log 101\n", "log: 1\n", "take 2 by 15\n", "\n")])
        for count, line in [(0, None), (1, None), (100, None), (101, 1)]:
            self.assertEqual(self.fault(f"log {count}\n" + "take 7 by 8\n" * count), line)

    def test_lines_of_picks(self):
        lines = ["take -1 by 15", "take 2 by -15", "take 02 by 15", "take 2 by 015", "take -0 by 15", "take 2 by -0",
                 "take  2 by 15", "take 2  by 15", "take 2 by  15", "take 2 by 15 ", " take 2 by 15", "take 2 15", "take 2",
                 "take 2 by", "take 2 by ", "take by 15", "2 by 15", "take 2 by 15 by 3", "Take 2 by 15", "take 2 on 15", "",
                 "take 2,by 15", "take two by 15", "take 2by 15", "take 2 by 1_5", "take +2 by 15", "15 by take 2"]
        for line in lines:
            self.check_faults([(f"log 1\n{line}\n", 2), (f"log 2\ntake 0 by 0\n{line}\n", 3),
                               (f"log 3\ntake 0 by 0\n{line}\ntake\n", 3)])

    def test_a_run_from_its_log(self):
        rows = random_rows(Random(5), 2, 8)
        run = thinned_run(rows, grade=3)
        told = resumed(rows, parse_log(format_log(run.log)), grade=3)
        self.assertEqual((told.log, told.left), (run.log, 0))
        self.assertTrue(told.kept() == run.kept())


if __name__ == "__main__":
    unittest.main()
