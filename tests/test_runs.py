import unittest
from fractions import Fraction
from random import Random

from fourcords.errors import BadPick, BadStep, RunOver, StepsLeft
from fourcords.grades import grade_factor, grade_fences, grade_gap, grade_moves, grade_steps, grade_unit
from fourcords.judging import judge, rank
from fourcords.rowlists import RowList
from fourcords.runs import Run, picks, resumed
from fourcords.stands import Stand
from reference import number, random_rows

ONE = RowList(1, [((1,), 1)])
ROWS = RowList(2, [((0, 0), 7), ((1, 0), 3), ((1, 1), 1), ((2, -1), 2), ((1, 0), 1)], bottom=4)
NOTHING = [RowList(0, []), RowList(0, [((), 3)]), RowList(3, []), RowList(2, [((0, 0), 1), ((0, 0), 5)])]


def sample_lists(seed, count=12):
    """Lists of rank 1 or more, with a grade that needs at most 40 steps."""
    random = Random(seed)
    found = []
    while len(found) < count:
        rows = random_rows(random, len(found) % 4 + 1, random.randint(1, 7), limit=2)
        grade = random.choice([2, 2, 3, 4, 5])
        if 0 < grade_steps(grade, rank(rows.form)) <= 40:
            found.append((rows, grade))
    return found


def any_pick(random, run):
    """Some pick that is let, not always the first pair or the least count."""
    rooms = [(index, run.room(index)) for index in range(len(run.rows))]
    index, (least, greatest) = random.choice([(index, room) for index, room in rooms if room is not None])
    return index, random.choice([least, greatest, random.randint(least, greatest)])


def fields(run):
    stand = run.stand
    return (run.rows.pairs, run.grade, run.log, run.left, stand.counts, stand.low, stand.high, stand.unit,
            stand.low_measure, stand.high_measure)


class Beginning(unittest.TestCase):
    def test_fields(self):
        for rows, grade in sample_lists(1):
            run = Run(rows, grade=grade)
            r = rank(rows.form)
            self.assertTrue(run.rows == rows)
            self.assertEqual((run.grade, run.log, run.left), (grade, (), grade * grade * r))
            self.assertIsInstance(run.stand, Stand)
            self.assertTrue(run.stand.rows == rows)
            self.assertEqual(run.stand.counts, (0,) * len(rows))
            self.assertEqual((run.stand.low, run.stand.high), grade_fences(grade, r))
            self.assertEqual(run.stand.unit, grade_unit(grade))
            self.assertEqual(number(run.stand.low_measure), Fraction(1, grade))
            self.assertEqual(number(run.stand.high_measure), Fraction(grade - 1, grade * (grade + 1)))

    def test_the_default_grade_is_2(self):
        self.assertEqual(fields(Run(ROWS)), fields(Run(ROWS, grade=2)))
        self.assertEqual((Run(ROWS).grade, Run(ROWS).left), (2, 8))

    def test_rank_0(self):
        for rows in NOTHING:
            for grade in (2, 5, 10):
                run = Run(rows, grade=grade)
                self.assertEqual((run.log, run.left, run.grade), ((), 0, grade))
                self.assertEqual((run.stand.low_measure, run.stand.high_measure), ((0, 1), (0, 1)))
                self.assertEqual((run.stand.low, run.stand.high), ((0, 1), (0, 1)))
                self.assertEqual(run.stand.counts, (0,) * len(rows))


class Taken(unittest.TestCase):
    def test_a_step(self):
        run = Run(ROWS)
        before = fields(run)
        index, (least, _) = 2, run.room(2)
        told = run.taken(index, least)
        self.assertIsInstance(told, Run)
        self.assertEqual(fields(run), before)
        self.assertEqual((told.log, told.left, told.grade), (((2, least),), 7, 2))
        self.assertTrue(told.rows == ROWS)
        moved = run.stand.moved(*grade_moves(2), index, least)
        self.assertEqual(vars(told.stand).keys(), vars(moved).keys())
        self.assertEqual((told.stand.counts, told.stand.low, told.stand.high, told.stand.unit),
                         (moved.counts, moved.low, moved.high, moved.unit))
        least_again = told.room(1)[0]
        self.assertEqual(told.taken(1, least_again).log, ((2, least), (1, least_again)))
        self.assertEqual(told.log, ((2, least),))
        # A second way from the same run.
        self.assertEqual(run.taken(1, run.room(1)[0]).log, ((1, run.room(1)[0]),))

    def test_told_answers(self):
        run = Run(ONE)
        self.assertEqual((run.left, run.room(0), run.pick()), (4, (10, 33), (0, 10)))
        for count in (10, 21, 33):
            self.assertEqual(run.taken(0, count).stand.counts, (count,))
            self.assertEqual(run.taken(0, count).left, 3)
        for count in (9, 34):
            with self.assertRaises(BadPick):
                run.taken(0, count)

    def test_room_is_that_of_the_stand(self):
        random = Random(2)
        for rows, grade in sample_lists(3):
            run = Run(rows, grade=grade)
            for _ in range(3):
                for index in range(len(rows)):
                    self.assertEqual(run.room(index), run.stand.room(*grade_moves(grade), index))
                run = run.taken(*any_pick(random, run))

    def test_bad_picks(self):
        run = Run(ROWS)
        least, greatest = run.room(1)
        faults = [(5, least), (-1, least), (-5, least), (10 ** 30, 1), (-10 ** 30, 1), (1, least - 1),
                  (1, greatest + 1), (1, 0), (1, -1), (1, -least), (0, least), (0, 1), (0, 0), (1, 10 ** 30)]
        self.assertIsNone(run.room(0))
        for index, count in faults:
            before = fields(run)
            with self.assertRaises(BadPick) as caught:
                run.taken(index, count)
            self.assertEqual((caught.exception.index, caught.exception.count), (index, count))
            self.assertEqual(fields(run), before)

    def test_room_of_indexes_without_a_pair(self):
        run = Run(ROWS)
        self.assertEqual([run.room(index) for index in (-1, -4, -5, 5, 6, 10 ** 30, -10 ** 30)], [None] * 7)
        self.assertIsNotNone(run.room(4))

    def test_run_over_ahead_of_bad_pick(self):
        over = [Run(rows, grade=grade) for rows in NOTHING for grade in (2, 7)]
        over.append(resumed(ONE, [(0, 10)] * 4))
        for run in over:
            self.assertEqual(run.left, 0)
            for index, count in [(0, 10), (0, 0), (-1, 1), (99, -5)]:
                with self.assertRaises(RunOver):
                    run.taken(index, count)
            for index in (0, 1, -1, 99):
                with self.assertRaises(RunOver):
                    run.room(index)


class AlongRuns(unittest.TestCase):
    def test_whatever_picks_are_taken(self):
        random = Random(4)
        for rows, grade in sample_lists(5):
            run = Run(rows, grade=grade)
            low_step, high_step = grade_moves(grade)
            gap = number(grade_gap(grade))
            for step in range(grade_steps(grade, rank(rows.form))):
                before = run.stand
                numbers = [(number(upper), number(lower)) for upper, lower in before.numbers(low_step, high_step)]
                self.assertGreaterEqual(sum(lower - upper for upper, lower in numbers), gap)
                for index, (upper, lower) in enumerate(numbers):
                    if lower - upper >= gap / len(rows):
                        self.assertIsNotNone(run.room(index))
                run = run.taken(*any_pick(random, run))
                self.assertEqual((len(run.log), run.left), (step + 1, run.grade ** 2 * rank(rows.form) - step - 1))
                self.assertLessEqual(number(run.stand.low_measure), number(before.low_measure))
                self.assertLessEqual(number(run.stand.high_measure), number(before.high_measure))
                self.assertLessEqual(number(run.stand.low_measure), Fraction(1, grade))
                self.assertLessEqual(number(run.stand.high_measure), Fraction(grade - 1, grade * (grade + 1)))
            self.check_kept(run)

    def check_kept(self, run):
        rows, kept, r = run.rows, run.kept(), rank(run.rows.form)
        k = run.grade
        self.assertEqual(kept.size, rows.size)
        taken = [index for index, count in enumerate(run.stand.counts) if count > 0]
        self.assertEqual([row for row, _ in kept], [rows.pairs[index][0] for index in taken])
        shares = [Fraction(run.stand.counts[index] * rows.pairs[index][1],
                           run.stand.unit * len(rows) * rows.bottom * k * (k - 1) * r) for index in taken]
        self.assertEqual([Fraction(weight, kept.bottom) for _, weight in kept], shares)
        self.assertLessEqual(len(kept), k * k * r)
        for gap in (kept.form - rows.form, rows.form.scaled(grade_factor(k)) - kept.form):
            self.assertTrue(judge(gap).holds)
            self.assertEqual(rank(gap), r)


class Pick(unittest.TestCase):
    def test_the_first_pair_with_room(self):
        random = Random(6)
        later = 0
        for rows, grade in sample_lists(7, 25):
            run = Run(rows, grade=grade)
            for _ in range(min(run.left, 6)):
                rooms = [run.room(index) for index in range(len(rows))]
                shuffled = random.sample(range(len(rows)), len(rows))
                for order in (None, tuple(range(len(rows))), shuffled, tuple(shuffled), shuffled[::-1]):
                    first = next(i for i in (range(len(rows)) if order is None else order) if rooms[i] is not None)
                    told = run.pick(order=order)
                    self.assertEqual((type(told), told), (tuple, (first, rooms[first][0])))
                    later += first != (0 if order is None else order[0])
                self.assertEqual(run.pick(), run.pick(order=list(range(len(rows)))))
                run = run.taken(*any_pick(random, run))
        self.assertGreater(later, 20)

    def test_told_answers(self):
        run = Run(ROWS)
        self.assertEqual(run.pick()[0], 1)
        self.assertEqual(run.pick(order=(0, 2, 4, 3, 1)), (2, run.room(2)[0]))
        self.assertEqual(run.pick(order=[4, 3, 2, 1, 0]), (4, run.room(4)[0]) if run.room(4) else (3, run.room(3)[0]))

    def test_run_over(self):
        for run in [Run(rows) for rows in NOTHING] + [resumed(ONE, [(0, 10)] * 4)]:
            with self.assertRaises(RunOver):
                run.pick()
            with self.assertRaises(RunOver):
                run.pick(order=tuple(range(len(run.rows))))


class Picks(unittest.TestCase):
    def test_picks_of_whole_runs_and_of_what_is_left(self):
        random = Random(8)
        for rows, grade in sample_lists(9):
            run = Run(rows, grade=grade)
            order = random.sample(range(len(rows)), len(rows))
            for _ in range(random.choice([0, 1, 3])):
                run = run.taken(*any_pick(random, run))
            for asked in (None, order):
                before = fields(run)
                told = list(picks(run, order=asked))
                self.assertEqual(fields(run), before)
                self.assertEqual(len(told), run.left)
                here = run
                for pick in told:
                    self.assertEqual((type(pick), pick), (tuple, here.pick(order=asked)))
                    here = here.taken(*pick)
                self.assertEqual(here.left, 0)

    def test_told_answers(self):
        self.assertEqual(list(picks(Run(ONE))), [(0, 10)] * 4)
        self.assertEqual(list(picks(Run(ONE), order=[0])), [(0, 10)] * 4)

    def test_nothing_where_no_steps_are_left(self):
        for run in [Run(rows) for rows in NOTHING] + [resumed(ONE, [(0, 10)] * 4)]:
            self.assertEqual(list(picks(run)), [])
            self.assertEqual(list(picks(run, order=list(range(len(run.rows))))), [])

    def test_arguments_are_looked_at_and_copied_with_the_first_item(self):
        run = Run(ROWS)
        one, two = [1, 2, 3, 4, 0], [4, 3, 2, 1, 0]
        order = list(one)
        told = picks(run, order=order)
        order[:] = two
        first = next(told)
        order[:] = one
        self.assertEqual([first, *told], list(picks(run, order=two)))
        self.assertNotEqual(list(picks(run, order=one)), list(picks(run, order=two)))
        # A call by itself looks at nothing.
        self.assertTrue(hasattr(picks(None, order=7), "__next__"))


class Resumed(unittest.TestCase):
    def test_whole_logs_parts_and_empty_ones(self):
        random = Random(10)
        for rows, grade in sample_lists(11, 8):
            run = Run(rows, grade=grade)
            runs = [run]
            while run.left > 0:
                run = run.taken(*any_pick(random, run))
                runs.append(run)
            for at in {0, 1, len(run.log) // 2, len(run.log)}:
                log = run.log[:at]
                told = resumed(rows, log, grade=grade)
                self.assertIsInstance(told, Run)
                self.assertEqual(fields(told), fields(runs[at]))
                self.assertEqual(fields(resumed(rows, [list(pick) for pick in log], grade=grade)), fields(told))
                self.assertIs(type(told.log), tuple)
                self.assertTrue(all(type(pick) is tuple for pick in told.log))

    def test_the_default_grade_is_2(self):
        told = resumed(ONE, [(0, 11), (0, 30)])
        self.assertEqual((told.grade, told.left, told.log, told.stand.counts), (2, 2, ((0, 11), (0, 30)), (41,)))

    def test_the_first_bad_step(self):
        good = list(picks(Run(ROWS)))
        least, greatest = Run(ROWS).room(1)
        for bad in [(5, least), (-1, least), (-5, least), (1, 0), (1, -3), (0, 5), (1, 10 ** 30), (10 ** 30, 1)]:
            for step in (0, 3, 7):
                log = good[:step] + [bad] + good[step + 1:]
                self.check_step(ROWS, log, step)
                self.check_step(ROWS, log[:step + 1], step)
                self.check_step(ROWS, log + [(99, 99)], step)
        self.check_step(ROWS, [(1, least - 1), (-1, 0)], 0)
        self.check_step(ROWS, [(1, greatest + 1)], 0)
        self.check_step(ONE, [(0, 10), (0, 33), (0, 34)], 2)

    def test_no_steps_left(self):
        self.check_step(ONE, [(0, 10)] * 5, 4)
        self.check_step(ONE, [(0, 10)] * 4 + [(-1, 0)], 4)
        for rows in NOTHING:
            self.check_step(rows, [(0, 1)], 0)
            self.assertEqual(fields(resumed(rows, [])), fields(Run(rows)))

    def check_step(self, rows, log, step):
        with self.assertRaises(BadStep) as caught:
            resumed(rows, log)
        self.assertEqual(caught.exception.step, step)


class Kept(unittest.TestCase):
    def test_told_answers(self):
        # 40 counts of the unit 10, and 2 for k * (k - 1) * r.
        self.assertTrue(resumed(ONE, [(0, 10)] * 4).kept() == RowList(1, [((1,), 2)]))
        log = list(picks(Run(ROWS)))
        run = resumed(ROWS, log)
        kept = run.kept()
        expected = [(row, Fraction(count * weight, 10 * 5 * 4 * 2 * 2))
                    for (row, weight), count in zip(ROWS, run.stand.counts) if count > 0]
        self.assertEqual([(row, Fraction(weight, kept.bottom)) for row, weight in kept], expected)

    def test_like_rows_are_not_put_together(self):
        rows = RowList(1, [((1,), 1), ((1,), 1), ((-1,), 1)])
        run = Run(rows)
        for index in (2, 0, 2, 1):
            run = run.taken(index, run.room(index)[0])
        self.assertEqual([row for row, _ in run.kept()], [(1,), (1,), (-1,)])

    def test_steps_left(self):
        log = list(picks(Run(ROWS, grade=3)))
        for at in (0, 1, 17):
            with self.assertRaises(StepsLeft) as caught:
                resumed(ROWS, log[:at], grade=3).kept()
            self.assertEqual(caught.exception.left, 18 - at)
        self.assertEqual(rank((resumed(ROWS, log, grade=3).kept()).form), 2)

    def test_rank_0(self):
        for rows in NOTHING:
            for grade in (2, 9):
                self.assertTrue(Run(rows, grade=grade).kept() == RowList(rows.size, []))


if __name__ == "__main__":
    unittest.main()
