"""Lists thinned to few rows."""

from fourcords.runs import Run, first_pick, run_at, stand_behind


def thinned_run(rows, *, grade=2, order=None):
    """Return the run with no steps left that takes at each step the first pair that has room."""
    run = Run(rows, grade=grade)
    log = []
    stand = run.stand
    for _ in range(run.left):
        index, count = first_pick(stand, grade, order)
        log.append((index, count))
        stand = stand_behind(stand, grade, index, count)
    return run_at(run, tuple(log), stand)


def thinned(rows, *, grade=2, order=None):
    """Return the list that this run keeps."""
    return thinned_run(rows, grade=grade, order=order).kept()
