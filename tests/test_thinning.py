import unittest
from random import Random

from fourcords.grades import grade_factor
from fourcords.judging import judge, rank
from fourcords.rowlists import RowList
from fourcords.runs import Run, picks, resumed
from fourcords.thinning import thinned, thinned_run
from reference import BIG, HUGE, random_row, random_rows
from test_runs import NOTHING, ONE, ROWS, fields, sample_lists


class Thinned(unittest.TestCase):
    def test_the_run_of_the_picks(self):
        random = Random(1)
        for rows, grade in sample_lists(2):
            order = random.sample(range(len(rows)), len(rows))
            for asked in (None, order, tuple(order)):
                run = thinned_run(rows, grade=grade, order=asked)
                self.assertIsInstance(run, Run)
                self.assertEqual(run.left, 0)
                log = tuple(picks(Run(rows, grade=grade), order=asked))
                self.assertEqual(run.log, log)
                self.assertEqual(fields(run), fields(resumed(rows, log, grade=grade)))
                self.assertTrue(thinned(rows, grade=grade, order=asked) == run.kept())

    def test_defaults(self):
        self.assertEqual(thinned(ONE).pairs, (((1,), 2),))
        self.assertEqual(thinned_run(ONE).left, 0)
        self.assertEqual(fields(thinned_run(ROWS)), fields(thinned_run(ROWS, grade=2, order=(0, 1, 2, 3, 4))))
        self.assertTrue(thinned(ROWS) == thinned_run(ROWS, grade=2).kept())
        self.assertFalse(thinned(ROWS) == thinned(ROWS, grade=3))
        self.assertFalse(thinned(ROWS) == thinned(ROWS, order=(4, 3, 2, 1, 0)))

    def test_between_once_and_the_factor(self):
        random = Random(3)
        for grade, size, count in [(2, 1, 60), (2, 3, 30), (2, 5, 25), (3, 2, 30), (4, 2, 12), (5, 1, 30), (10, 1, 9)]:
            rows = random_rows(random, size, count)
            kept, r = thinned(rows, grade=grade), rank(rows.form)
            self.assertLessEqual(len(kept), grade * grade * r)
            for gap in (kept.form - rows.form, rows.form.scaled(grade_factor(grade)) - kept.form):
                self.assertTrue(judge(gap).holds)
                self.assertEqual(rank(gap), r)

    def test_sixty_pairs_become_few(self):
        random = Random(4)
        rows = random_rows(random, 4, 60)
        self.assertLessEqual(len(thinned(rows)), 16)
        self.assertEqual(rank(thinned(rows).form), 4)

    def test_rank_0(self):
        for rows in NOTHING:
            self.assertTrue(thinned(rows) == RowList(rows.size, []))
            self.assertEqual(fields(thinned_run(rows, grade=7)), fields(Run(rows, grade=7)))
            self.assertTrue(thinned(rows, order=list(range(len(rows)))) == RowList(rows.size, []))

    def test_long_numbers(self):
        random = Random(5)
        pairs = [(random_row(random, 4, BIG), random.randint(1, HUGE)) for _ in range(20)]
        rows = RowList(4, pairs, bottom=HUGE - 2)
        kept = thinned(rows)
        self.assertTrue(judge(kept.form - rows.form).holds)
        self.assertTrue(judge(rows.form.scaled((29, 3)) - kept.form).holds)


class Renamed(unittest.TestCase):
    """Point 50: the names of the unknowns make no difference."""

    def changes(self, random, rows):
        size = rows.size
        one, two = random.sample(range(size), 2)
        times, place = random.choice([-3, 1, 2]), random.randint(0, size)
        makers = [lambda row: tuple(row[two] if k == one else row[one] if k == two else x for k, x in enumerate(row)),
                  lambda row: tuple(x + times * row[one] if k == two else x for k, x in enumerate(row)),
                  lambda row: row[:place] + (0,) + row[place:]]
        for maker in makers:
            pairs = [(maker(row), weight) for row, weight in rows]
            yield RowList(len(maker((0,) * size)), pairs, bottom=rows.bottom)
        yield rows.scaled((random.randint(1, 9), random.randint(1, 9)))

    def test_stands_and_runs(self):
        random = Random(6)
        for _ in range(10):
            rows = random_rows(random, random.randint(2, 4), random.randint(2, 7), limit=2)
            if not 0 < rank(rows.form) < 4:
                continue
            order = random.sample(range(len(rows)), len(rows))
            first = Run(rows)
            log = list(picks(first, order=order))
            half = resumed(rows, log[:3])
            for other in self.changes(random, rows):
                told = resumed(other, log[:3])
                for one, two in ((first, Run(other)), (half, told)):
                    self.assertEqual(one.stand.low_measure, two.stand.low_measure)
                    self.assertEqual(one.stand.high_measure, two.stand.high_measure)
                    steps = (1, 7), (2, 3)
                    self.assertEqual(one.stand.numbers(*steps), two.stand.numbers(*steps))
                    for index in range(len(rows)):
                        self.assertEqual(one.room(index), two.room(index))
                        self.assertEqual(one.stand.room(*steps, index), two.stand.room(*steps, index))
                    self.assertEqual((one.pick(), one.pick(order=order)), (two.pick(), two.pick(order=order)))
                self.assertEqual(list(picks(Run(other), order=order)), log)
                self.assertEqual(thinned_run(other).log, thinned_run(rows).log)


if __name__ == "__main__":
    unittest.main()
