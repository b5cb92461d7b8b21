"""The numbers that belong to a grade: how many rows a run takes, and how near they keep the list."""

from fourcords.ratios import fraction


def grade_steps(grade, rank):
    """Return the number of steps of a run, a whole number."""
    return grade * grade * rank


def grade_fences(grade, rank):
    """Return the low and the high fence at the beginning of a run, two fractions."""
    return (-grade * rank, 1), fraction(grade * (grade + 1) * rank, grade - 1)


def grade_unit(grade):
    """Return the unit of the stands of a run, a whole number."""
    return 9 * grade - 8


def grade_moves(grade):
    """Return by how much each step moves the low and the high fence, two fractions."""
    unit = grade_unit(grade)
    return (1, 1), fraction((grade + 1) * unit, (grade - 1) * (unit - 1))


def grade_gap(grade):
    """Return by how much the lower numbers exceed the upper ones in their sums at least, a fraction."""
    return fraction(grade - 1, (grade + 1) * grade_unit(grade))


def grade_factor(grade):
    """Return the factor within which a run of this grade keeps its list, a fraction."""
    less = grade_unit(grade) - 1
    return fraction((grade + 1) * (less * (grade + 1) + grade), less * (grade - 1) * (grade - 1))
