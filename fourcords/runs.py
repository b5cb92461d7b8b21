"""Runs: rows of a list taken one after the other, so that few of them keep the list."""

from fourcords.copies import copied
from fourcords.errors import BadPick, BadStep, RunOver, StepsLeft
from fourcords.grades import grade_fences, grade_moves, grade_steps, grade_unit
from fourcords.judging import rank
from fourcords.rowlists import RowList
from fourcords.stands import MovedFences, Stand


def moved_fences(stand, grade):
    """Return the fences of the stand as the next step moves them."""
    low_step, high_step = grade_moves(grade)
    return MovedFences(stand, low_step, high_step)


def has_pair(stand, index):
    """Return True if a pair of the list has this index."""
    return 0 <= index < len(stand.rows)


def is_let(stand, grade, index, count):
    """Return True if the next step may take this pick; no count below 1 is let anywhere."""
    return has_pair(stand, index) and moved_fences(stand, grade).lets_at(index, count)


def first_pick(stand, grade, order):
    """Return the pick of the first pair that has room, with the least count."""
    fences = moved_fences(stand, grade)
    indexes = list(range(len(stand.rows))) if order is None else order
    at = 0
    room = fences.room_at(indexes[at])
    # This ends, as some pair has room in every run with steps left.
    while room is None:
        at += 1
        room = fences.room_at(indexes[at])
    return indexes[at], room[0]


def stand_behind(stand, grade, index, count):
    """Return the stand behind a pick that is let."""
    low_step, high_step = grade_moves(grade)
    return stand.moved(low_step, high_step, index, count)


def run_at(run, log, stand):
    """Return the run of the same list and grade that reached the stand by the picks of the log."""
    reached = Run(run.rows, grade=run.grade)
    reached.log = log
    reached.stand = stand
    reached.left = reached.left - len(log)
    return reached


def check_steps(run):
    """Raise RunOver if the run has no steps left."""
    if run.left == 0:
        raise RunOver()


class Run:
    """Rows of a list, taken one after the other: the picks so far, where they stand, and the steps left."""

    def __init__(self, rows, *, grade=2):
        dimension = rank(rows.form)
        low, high = grade_fences(grade, dimension)
        self.rows = rows
        self.grade = grade
        self.log = ()
        self.stand = Stand(rows, [0] * len(rows), low, high, unit=grade_unit(grade))
        self.left = grade_steps(grade, dimension)

    def taken(self, index, count):
        """Return the run behind this pick."""
        check_steps(self)
        if not is_let(self.stand, self.grade, index, count):
            raise BadPick(index, count)
        return run_at(self, (*self.log, (index, count)), stand_behind(self.stand, self.grade, index, count))

    def room(self, index):
        """Return the least and the greatest count that is let for the pair, or None."""
        check_steps(self)
        return moved_fences(self.stand, self.grade).room_at(index) if has_pair(self.stand, index) else None

    def pick(self, *, order=None):
        """Return the pick of the first pair that has room, with the least count."""
        check_steps(self)
        return first_pick(self.stand, self.grade, order)

    def kept(self):
        """Return the list of the rows that were taken, with their new weights."""
        if self.left > 0:
            raise StepsLeft(self.left)
        parts = self.grade * (self.grade - 1) * rank(self.rows.form) * self.stand.unit * len(self.rows)
        pairs = [(row, count * weight) for (row, weight), count in zip(self.rows.pairs, self.stand.counts) if count > 0]
        # Without a step there are no pairs, and any bottom does.
        return RowList(self.rows.size, pairs, bottom=max(parts, 1) * self.rows.bottom)


def picks(run, *, order=None):
    """Yield the picks of the run, until no steps are left."""
    places = copied(order)
    stand = run.stand
    for _ in range(run.left):
        index, count = first_pick(stand, run.grade, places)
        yield index, count
        stand = stand_behind(stand, run.grade, index, count)


def resumed(rows, log, *, grade=2):
    """Return the run that takes the picks of a log one after the other from the beginning."""
    run = Run(rows, grade=grade)
    stand = run.stand
    for step, (index, count) in enumerate(log):
        if step >= run.left or not is_let(stand, grade, index, count):
            raise BadStep(step)
        stand = stand_behind(stand, grade, index, count)
    return run_at(run, copied(log), stand)
