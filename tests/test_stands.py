import unittest
from fractions import Fraction
from random import Random

from fourcords.errors import OutsideFence
from fourcords.forms import Form
from fourcords.inverses import inverse, paired, sandwich
from fourcords.judging import free_points, judge, leads, rank
from fourcords.ratios import fraction
from fourcords.rowlists import RowList
from fourcords.stands import Stand
from reference import (BIG, HUGE, at_row, inverse_of, matrix, mixed, number, random_row, random_rows, times, trace_of,
                       value)

ONE = RowList(1, [((1,), 1)])
# The first unknown is bounded from below by the first pair alone, the second one by the second pair.
TWO = RowList(2, [((1, 0), 1), ((0, 1), 1)])
# The last unknown and the sum of the first two are free.
LOOSE = RowList(3, [((1, -1, 0), 2), ((0, 0, 0), 3), ((2, -2, 0), 1)], bottom=4)


def counted(rows, counts, unit):
    """The matrix of the counted rows."""
    told = [[Fraction(0)] * rows.size for _ in range(rows.size)]
    for (row, weight), count in zip(rows, counts):
        share = Fraction(count * weight, unit * len(rows) * rows.bottom)
        told = [[told[i][j] + share * row[i] * row[j] for j in range(rows.size)] for i in range(rows.size)]
    return told


def expected_numbers(stand, low_step, high_step):
    """The numbers of point 38 by its formulas, with fractions."""
    rows, low, high = stand.rows, number(stand.low), number(stand.high)
    ell, a = matrix(stand.rows.form), counted(stand.rows, stand.counts, stand.unit)
    z = inverse_of(mixed(a, -(low + low_step), ell))
    x = inverse_of(mixed(negative(a), high + high_step, ell))
    fall = number(stand.high_measure) - trace_of(ell, x)
    rise = trace_of(ell, z) - number(stand.low_measure)
    told = []
    for row, weight in rows:
        w = Fraction(weight, rows.bottom)
        if not any(row):
            told.append((0, 0))
        else:
            told.append((w * at_row(times(times(x, ell), x), row) / fall + w * at_row(x, row),
                         w * at_row(times(times(z, ell), z), row) / rise - w * at_row(z, row)))
    return told


def sample_stands(seed, count=40):
    """Stands strictly inside fences, of all sizes to 4 and of all ranks, and pairs of steps."""
    random = Random(seed)
    found = []
    while len(found) < count:
        size = len(found) % 5
        rows = random_rows(random, size, random.randint(0, 6), limit=2)
        counts = [random.choice([0, 1, 3, 8, 20]) for _ in rows]
        low = Fraction(random.randint(-6, 2), random.randint(1, 3))
        high = Fraction(random.randint(1, 14), random.randint(1, 3))
        unit = random.choice([1, 2, 10, 19])
        try:
            stand = Stand(rows, counts, (low.numerator, low.denominator), (high.numerator, high.denominator), unit=unit)
        except OutsideFence:
            continue
        if rank(rows.form) > 0:
            low_step = number_pair(Fraction(random.randint(1, 9), 10) / number(stand.low_measure))
            # From 1 / low_measure on not every fence can be moved.
            wide = number_pair(Fraction(random.randint(10, 14), 10) / number(stand.low_measure))
            low_step = wide if random.randint(0, 2) == 0 and can_move(stand, wide) else low_step
        else:
            low_step = (1, 2)
        found.append((stand, low_step, fraction(random.randint(1, 9), random.randint(1, 3))))
    return found


def can_move(stand, low_step):
    gap = stand.form - stand.rows.form.scaled(number_pair(number(stand.low) + number(low_step)))
    return judge(gap).holds and rank(gap) == rank(stand.rows.form)


def number_pair(x):
    return x.numerator, x.denominator


def negative(m):
    return [[-x for x in row] for row in m]


class Fields(unittest.TestCase):
    def test_form_and_fields(self):
        for stand, _, _ in sample_stands(1):
            self.assertEqual(matrix(stand.form), counted(stand.rows, stand.counts, stand.unit))
            self.assertIs(type(stand.counts), tuple)

    def test_lists_and_lowest_terms(self):
        rows = RowList(2, [((1, 0), 2), ((1, 1), 3)], bottom=5)
        stand = Stand(rows, [4, 0], [-2, 6], [4, 2], unit=3)
        self.assertTrue(stand.rows == rows)
        self.assertEqual((stand.counts, stand.low, stand.high, stand.unit), ((4, 0), (-1, 3), (2, 1), 3))
        self.assertTrue(stand.form == Form([[4, 0], [0, 0]], bottom=15))
        self.assertEqual(Stand(rows, (0, 0), (-1, 3), (2, 1)).unit, 10)

    def test_a_later_change_of_the_counts(self):
        counts = [4, 0]
        stand = Stand(TWO, counts, (-1, 1), (9, 1))
        counts[0] = 77
        self.assertEqual(stand.counts, (4, 0))

    def test_unit_times_pairs_counts_are_one_weight(self):
        rows = RowList(1, [((2,), 3), ((1,), 5)], bottom=7)
        self.assertTrue(Stand(rows, (10, 10), (0, 1), (9, 1), unit=5).form == rows.form)
        self.assertTrue(Stand(rows, (20, 20), (0, 1), (9, 1)).form == rows.form)
        self.assertTrue(Stand(rows, (0, 0), (-1, 1), (9, 1)).form == Form.zero(1))

    def test_without_pairs(self):
        for size in (0, 3):
            stand = Stand(RowList(size, []), (), (7, 2), (-7, 2))
            self.assertTrue(stand.form == Form.zero(size))
            self.assertEqual((stand.counts, stand.low_measure, stand.high_measure), ((), (0, 1), (0, 1)))
            self.assertEqual(stand.numbers((1, 1), (1, 1)), ())


class Fences(unittest.TestCase):
    def check_outside(self, side, rows, counts, low, high, unit=10):
        with self.assertRaises(OutsideFence) as caught:
            Stand(rows, counts, low, high, unit=unit)
        self.assertEqual(caught.exception.side, side)
        self.check_point(side, caught.exception.point, rows, counted(rows, counts, unit), low if side == "low" else high)

    def check_point(self, side, point, rows, a, fence):
        self.assertEqual((type(point), len(point)), (tuple, rows.size))
        whole = value(rows.form, point)
        self.assertGreater(whole, 0)
        if side == "low":
            self.assertLessEqual(at_row(a, point), Fraction(*fence) * whole)
        else:
            self.assertGreaterEqual(at_row(a, point), Fraction(*fence) * whole)

    def test_just_touched_and_just_inside(self):
        # In ONE ten counts are worth one whole.
        self.check_outside("low", ONE, (10,), (1, 1), (3, 1))
        self.check_outside("high", ONE, (30,), (1, 1), (3, 1))
        self.check_outside("low", ONE, (9,), (1, 1), (3, 1))
        self.check_outside("high", ONE, (31,), (1, 1), (3, 1))
        self.assertEqual(Stand(ONE, (11,), (1, 1), (3, 1)).low_measure, (10, 1))
        self.assertEqual(Stand(ONE, (29,), (1, 1), (3, 1)).high_measure, (10, 1))
        self.check_outside("low", TWO, (21, 20), (1, 1), (3, 1))
        self.check_outside("high", TWO, (59, 60), (1, 1), (3, 1))
        self.check_outside("low", LOOSE, (0, 0, 0), (0, 1), (1, 1))
        self.check_outside("high", LOOSE, (0, 0, 0), (-1, 1), (0, 1))
        self.check_outside("low", TWO, (40, 0), (0, 1), (3, 1))
        # Some points at which such a fence is touched are free for the list.
        behind = RowList(3, [((0, 0, 1), 1), ((0, 1, 0), 1)])
        self.check_outside("low", behind, (20, 20), (1, 1), (3, 1))
        self.check_outside("low", behind, (20, 30), (1, 1), (3, 1))
        self.check_outside("high", behind, (30, 60), (1, 1), (3, 1))
        self.check_outside("high", behind, (60, 60), (1, 1), (3, 1))

    def test_low_ahead_of_high(self):
        self.check_outside("low", ONE, (10,), (1, 1), (1, 1))
        self.check_outside("low", ONE, (10,), (2, 1), (0, 1))
        self.check_outside("low", TWO, (60, 20), (1, 1), (3, 1))
        self.check_outside("low", TWO, (61, 19), (1, 1), (3, 1))
        self.check_outside("high", TWO, (60, 21), (1, 1), (3, 1))

    def test_samples(self):
        random = Random(2)
        told = {"low": 0, "high": 0, "inside": 0}
        for at in range(150):
            rows = random_rows(random, at % 4 + 1, random.randint(1, 5), limit=2)
            counts = [random.choice([0, 5, 10, 11]) * len(rows) for _ in rows]
            low, high = (random.randint(-3, 1), random.randint(1, 2)), (random.randint(0, 9), random.randint(1, 4))
            a, ell = counted(rows, counts, 10), matrix(rows.form)
            try:
                stand = Stand(rows, counts, low, high)
            except OutsideFence as error:
                told[error.side] += 1
                self.check_point(error.side, error.point, rows, a, low if error.side == "low" else high)
                if error.side == "high":
                    above = stand_form(mixed(a, -Fraction(*low), ell))
                    self.assertTrue(judge(above).holds)
                    self.assertEqual(rank(above), rank(rows.form))
                continue
            told["inside"] += 1
            for gap in (stand.form - rows.form.scaled(low), rows.form.scaled(high) - stand.form):
                self.assertTrue(judge(gap).holds)
                self.assertEqual((leads(gap), free_points(gap)), (leads(rows.form), free_points(rows.form)))
        self.assertGreater(min(told.values()), 10)

    def test_rank_0_with_any_fences(self):
        for rows in (RowList(0, []), RowList(0, [((), 2)]), RowList(2, []), RowList(2, [((0, 0), 5), ((0, 0), 1)])):
            for low, high in [((0, 1), (0, 1)), ((9, 2), (-9, 2)), ((-1, 1), (1, 1))]:
                stand = Stand(rows, [7] * len(rows), low, high)
                self.assertEqual((stand.low, stand.high), (low, high))
                self.assertEqual((stand.low_measure, stand.high_measure), ((0, 1), (0, 1)))


def stand_form(m):
    """The form of a matrix of fractions."""
    bottom = 1
    for row in m:
        for x in row:
            bottom *= x.denominator
    return Form([[int(x * bottom) for x in row] for row in m], bottom=bottom)


class Measures(unittest.TestCase):
    def test_against_fractions(self):
        for stand, _, _ in sample_stands(3):
            ell, a = matrix(stand.rows.form), counted(stand.rows, stand.counts, stand.unit)
            above = mixed(a, -number(stand.low), ell)
            below = mixed(negative(a), number(stand.high), ell)
            self.assertEqual(number(stand.low_measure), trace_of(ell, inverse_of(above)))
            self.assertEqual(number(stand.high_measure), trace_of(ell, inverse_of(below)))

    def test_told_answers(self):
        stand = Stand(ONE, (10,), (0, 1), (3, 1))
        self.assertEqual((stand.low_measure, stand.high_measure), ((1, 1), (1, 2)))
        # Of the first unknown a half was counted, of the second one nothing.
        stand = Stand(TWO, (10, 0), (-1, 1), (4, 1))
        self.assertEqual((stand.low_measure, stand.high_measure), ((5, 3), (15, 28)))

    def test_a_small_measure_keeps_away_from_the_fence(self):
        for stand, _, _ in sample_stands(4):
            if rank(stand.rows.form) == 0:
                continue
            for more in (0, Fraction(1, 3)):
                e = number(stand.low_measure) + more
                bound = stand.rows.form.scaled(number_pair(number(stand.low) + 1 / e))
                self.assertTrue(judge(stand.form - bound).holds)
                e = number(stand.high_measure) + more
                bound = stand.rows.form.scaled(number_pair(number(stand.high) - 1 / e))
                self.assertTrue(judge(bound - stand.form).holds)


class Numbers(unittest.TestCase):
    def test_against_fractions(self):
        for stand, low_step, high_step in sample_stands(5, 60):
            told = stand.numbers(low_step, high_step)
            self.assertIs(type(told), tuple)
            self.assertEqual([(number(upper), number(lower)) for upper, lower in told],
                             expected_numbers(stand, number(low_step), number(high_step)))
            for (row, _), (upper, _) in zip(stand.rows, told):
                self.assertEqual(number(upper) > 0, any(row))

    def test_told_answers(self):
        stand = Stand(ONE, (10,), (0, 1), (3, 1))
        self.assertEqual(stand.numbers((1, 2), (1, 1)), (((1, 1), (2, 1)),))
        self.assertEqual(stand.numbers([2, 4], [3, 3]), (((1, 1), (2, 1)),))
        zeros = RowList(2, [((0, 0), 5), ((1, 1), 2)])
        self.assertEqual(Stand(zeros, (0, 20), (0, 1), (3, 1)).numbers((1, 2), (1, 1)),
                         (((0, 1), (0, 1)), ((1, 1), (2, 1))))
        zeros = RowList(2, [((0, 0), 5), ((0, 0), 2)])
        self.assertEqual(Stand(zeros, (0, 20), (0, 1), (3, 1)).numbers((1, 2), (1, 1)), (((0, 1), (0, 1)),) * 2)
        # A lower number may be below 0.
        rows = RowList(2, [((1, 0), 1), ((0, 1), 10 ** 6)])
        numbers = Stand(rows, (10, 400), (0, 1), (30, 1)).numbers((2, 5), (1, 1))
        self.assertTrue(any(lower[0] <= 0 for _, lower in numbers))

    def test_sums_and_bounds(self):
        near = 0
        for stand, low_step, high_step in sample_stands(6, 60):
            ell = stand.rows.form
            if rank(ell) == 0:
                continue
            low, high, p, q = number(stand.low), number(stand.high), number(low_step), number(high_step)
            w, z = [inverse(stand.form - ell.scaled(number_pair(x))) for x in (low, low + p)]
            v, x = [inverse(ell.scaled(number_pair(x)) - stand.form) for x in (high, high + q)]
            rise = number(paired(ell, z)) - number(stand.low_measure)
            fall = number(stand.high_measure) - number(paired(ell, x))
            self.assertGreater(min(rise, fall), 0)
            self.assertEqual(rise, p * number(paired(sandwich(ell, w), z)))
            self.assertLessEqual(rise, p * number(paired(ell, sandwich(z, ell))))
            self.assertEqual(fall, q * number(paired(sandwich(ell, v), x)))
            self.assertGreaterEqual(fall, q * number(paired(ell, sandwich(x, ell))))
            told = stand.numbers(low_step, high_step)
            uppers = sum(number(upper) for upper, _ in told)
            lowers = sum(number(lower) for _, lower in told)
            self.assertEqual(uppers, number(paired(ell, sandwich(x, ell))) / fall + number(paired(ell, x)))
            self.assertEqual(lowers, number(paired(ell, sandwich(z, ell))) / rise - number(paired(ell, z)))
            self.assertLessEqual(uppers, 1 / q + number(stand.high_measure))
            if p * number(stand.low_measure) < 1:
                near += 1
                self.assertGreaterEqual(lowers, 1 / p - number(stand.low_measure))
            if rank(ell) == 1:
                self.assertEqual((uppers, lowers), (1 / q, 1 / p))
        self.assertGreater(near, 20)

    def test_a_low_fence_that_cannot_be_moved(self):
        asked = 0
        for stand, low_step, high_step in sample_stands(7, 30):
            if rank(stand.rows.form) == 0:
                self.assertTrue(all(pair == ((0, 1), (0, 1)) for pair in stand.numbers((10 ** 9, 1), (1, 1))))
                continue
            for step in (low_step, (1, 3), (1, 1), (2, 1), (10 ** 9, 1)):
                if can_move(stand, step):
                    stand.numbers(step, high_step)
                else:
                    asked += 1
                    self.check_unmoved(stand, step, high_step)
        self.assertGreater(asked, 30)
        # The moved fence is just touched, at the second unknown alone.
        self.check_unmoved(Stand(TWO, (40, 20), (0, 1), (9, 1)), (1, 1), (1, 1))
        self.check_unmoved(Stand(LOOSE, (0, 0, 0), (-1, 1), (9, 1)), (1, 1), (1, 1))

    def check_unmoved(self, stand, low_step, high_step):
        pairs = range(len(stand.rows))
        asks = [lambda: stand.numbers(low_step, high_step)]
        asks += [lambda index=index: stand.room(low_step, high_step, index) for index in pairs]
        asks += [lambda index=index: stand.lets(low_step, high_step, index, 10 ** 20) for index in pairs]
        asks += [lambda index=index: stand.lets(low_step, high_step, index, 0) for index in pairs]
        a = counted(stand.rows, stand.counts, stand.unit)
        fence = number(stand.low) + number(low_step)
        for ask in asks:
            with self.assertRaises(OutsideFence) as caught:
                ask()
            self.assertEqual(caught.exception.side, "low")
            point = caught.exception.point
            self.assertGreater(value(stand.rows.form, point), 0)
            self.assertLessEqual(at_row(a, point), fence * value(stand.rows.form, point))


class Moved(unittest.TestCase):
    def test_the_moved_stand(self):
        stand = Stand(TWO, [10, 0], [-1, 1], [4, 1], unit=7)
        told = stand.moved([2, 4], [3, 3], 1, 5)
        self.assertIsInstance(told, Stand)
        self.assertEqual((told.counts, told.low, told.high, told.unit), ((10, 5), (-1, 2), (5, 1), 7))
        self.assertTrue(told.rows == TWO)
        self.assertEqual(matrix(told.form), counted(TWO, (10, 5), 7))
        self.assertEqual((stand.counts, stand.low, stand.high), ((10, 0), (-1, 1), (4, 1)))
        self.assertEqual(stand.moved((1, 2), (1, 1), 0, 0).counts, (10, 0))

    def test_errors_are_those_of_the_new_stand(self):
        stand = Stand(TWO, (20, 20), (0, 1), (4, 1))
        for low_step, high_step, index, count, side in [((1, 1), (1, 1), 0, 5, "low"), ((1, 1), (1, 1), 0, 81, "low"),
                                                        ((1, 2), (1, 1), 1, 80, "high"), ((1, 2), (1, 1), 1, 79, None)]:
            if side is None:
                stand.moved(low_step, high_step, index, count)
                continue
            with self.assertRaises(OutsideFence) as caught:
                stand.moved(low_step, high_step, index, count)
            self.assertEqual(caught.exception.side, side)
            counts = [20, 20]
            counts[index] += count
            a, point = counted(TWO, counts, 10), caught.exception.point
            if side == "low":
                self.assertLessEqual(at_row(a, point), value(TWO.form, point))
            else:
                self.assertGreaterEqual(at_row(a, point), 5 * value(TWO.form, point))

    def test_a_stand_is_moved_although_its_low_fence_cannot_be(self):
        stand = Stand(ONE, (10,), (0, 1), (3, 1))
        with self.assertRaises(OutsideFence):
            stand.lets((1, 1), (1, 1), 0, 5)
        told = stand.moved((1, 1), (1, 1), 0, 5)
        self.assertEqual((told.counts, told.low_measure, told.high_measure), ((15,), (2, 1), (2, 5)))

    def test_measures_of_the_moved_stand(self):
        random = Random(8)
        for stand, low_step, high_step in sample_stands(9, 40):
            ell, m = stand.rows.form, len(stand.rows)
            if rank(ell) == 0:
                continue
            z = inverse_of(mixed(matrix(stand.form), -number(stand.low) - number(low_step), matrix(ell)))
            x = inverse_of(mixed(negative(matrix(stand.form)), number(stand.high) + number(high_step), matrix(ell)))
            index, count = random.randrange(m), random.choice([0, 1, 5, 40])
            row, weight = stand.rows.pairs[index]
            t = Fraction(count * weight, stand.unit * m * stand.rows.bottom)
            try:
                told = stand.moved(low_step, high_step, index, count)
            except OutsideFence as error:
                self.assertEqual(error.side, "high")
                self.assertGreaterEqual(t * at_row(x, row), 1)
                continue
            self.assertLess(t * at_row(x, row), 1)
            ell = matrix(ell)
            zlz, xlx = times(times(z, ell), z), times(times(x, ell), x)
            self.assertEqual(number(told.low_measure),
                             trace_of(ell, z) - t * at_row(zlz, row) / (1 + t * at_row(z, row)))
            self.assertEqual(number(told.high_measure),
                             trace_of(ell, x) + t * at_row(xlx, row) / (1 - t * at_row(x, row)))


class LetsAndRoom(unittest.TestCase):
    def rises(self, stand, low_step, high_step, index, count):
        """Whether the moved stand cannot be, or has a greater measure."""
        try:
            told = stand.moved(low_step, high_step, index, count)
        except OutsideFence:
            return True
        return number(told.low_measure) > number(stand.low_measure) or \
            number(told.high_measure) > number(stand.high_measure)

    def test_against_the_numbers_and_the_measures(self):
        with_room = without = 0
        for stand, low_step, high_step in sample_stands(10, 60):
            full = stand.unit * len(stand.rows)
            told = stand.numbers(low_step, high_step)
            for index in range(len(stand.rows)):
                upper, lower = number(told[index][0]), number(told[index][1])
                room = stand.room(low_step, high_step, index)
                counts = {0, 1, 2, 5, full, 10 ** 100}
                if room is None:
                    without += 1
                    if lower > 0:
                        counts |= {int(full / lower), int(full / lower) + 1}
                    if upper > 0:
                        counts |= {int(full / upper), int(full / upper) + 1}
                else:
                    with_room += 1
                    least, greatest = room
                    self.assertEqual((type(room), type(least), type(greatest)), (tuple, int, int))
                    self.assertTrue(1 <= least <= greatest)
                    counts |= {least - 1, least, (least + greatest) // 2, greatest, greatest + 1}
                for count in counts:
                    lets = stand.lets(low_step, high_step, index, count)
                    self.assertIs(lets, count * upper <= full <= count * lower)
                    self.assertIs(lets, room is not None and room[0] <= count <= room[1])
                    if rank(stand.rows.form) > 0 and count < 10 ** 9:
                        self.assertIs(lets, not self.rises(stand, low_step, high_step, index, count))
        self.assertGreater(min(with_room, without), 15)

    def test_told_answers(self):
        stand = Stand(ONE, (10,), (0, 1), (3, 1))
        self.assertEqual(stand.room((1, 2), (1, 1), 0), (5, 10))
        self.assertEqual([count for count in range(40) if stand.lets((1, 2), (1, 1), 0, count)], list(range(5, 11)))
        # The upper number is 1 / high_step and the lower one 1 / low_step.
        self.assertEqual(stand.room((1, 2), (1, 2), 0), (5, 5))
        self.assertIsNone(stand.room((1, 2), (1, 3), 0))
        self.assertEqual(stand.room((1, 3), (2, 7), 0), None)
        self.assertEqual(stand.room((2, 7), (1, 3), 0), (3, 3))

    def test_rows_of_zeros_have_no_room(self):
        rows = RowList(2, [((0, 0), 5), ((1, 1), 2)])
        stand = Stand(rows, (0, 20), (0, 1), (3, 1))
        self.assertIsNone(stand.room((1, 2), (1, 1), 0))
        self.assertEqual(stand.room((1, 2), (1, 1), 1), (10, 20))
        self.assertFalse(stand.lets((1, 2), (1, 1), 0, 10))
        rows = RowList(2, [((0, 0), 5)])
        stand = Stand(rows, (3,), (9, 1), (3, 1))
        self.assertIsNone(stand.room((1, 2), (1, 1), 0))
        self.assertEqual([stand.lets((1, 2), (1, 1), 0, count) for count in (0, 1, 10, 10 ** 30)], [False] * 4)

    def test_size_ten_with_long_numbers(self):
        random = Random(11)
        pairs = [(random_row(random, 10, BIG), random.randint(1, HUGE)) for _ in range(12)]
        rows = RowList(10, pairs, bottom=HUGE - 2)
        stand = Stand(rows, [10 ** 12 + k for k in range(12)], (-20, 1), (10 ** 15, 7), unit=10 ** 6 + 3)
        told = stand.numbers((1, 1), (10, 3))
        index = max(range(12), key=lambda k: number(told[k][1]) - number(told[k][0]))
        least, _ = stand.room((1, 1), (10, 3), index)
        self.assertFalse(self.rises(stand, (1, 1), (10, 3), index, least))
        self.assertTrue(self.rises(stand, (1, 1), (10, 3), index, least - 1))


if __name__ == "__main__":
    unittest.main()
