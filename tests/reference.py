"""Plain, slow answers with Python's own fractions, and samples, for the tests."""

from fractions import Fraction
from itertools import combinations
from math import gcd, lcm
from random import Random

from fourcords.forms import Form
from fourcords.rowlists import RowList
from fourcords.surveys import Survey
from fourcords.webs import Web

BIG = 10 ** 12
HUGE = 10 ** 120 - 1


def as_lists(value):
    if isinstance(value, (list, tuple)):
        return [as_lists(item) for item in value]
    return value


def as_tuples(value):
    if isinstance(value, (list, tuple)):
        return tuple(as_tuples(item) for item in value)
    return value


def has_list(value):
    if isinstance(value, list):
        return True
    return isinstance(value, tuple) and any(has_list(item) for item in value)


def number(pair):
    """The number of a fraction; it must be a tuple in lowest terms."""
    assert type(pair) is tuple and len(pair) == 2, pair
    top, bottom = pair
    assert type(top) is int and type(bottom) is int and bottom >= 1 and gcd(top, bottom) == 1, pair
    return Fraction(top, bottom)


def numbers(vector):
    """The numbers of a vector; it must be a tuple in lowest terms."""
    assert type(vector) is tuple and len(vector) == 2, vector
    tops, bottom = vector
    assert type(tops) is tuple and type(bottom) is int and bottom >= 1, vector
    assert all(type(top) is int for top in tops), vector
    assert gcd(bottom, *tops) == 1, vector
    return [Fraction(top, bottom) for top in tops]


def dot(one, two):
    assert len(one) == len(two)
    return sum((Fraction(x) * y for x, y in zip(one, two)), Fraction(0))


def matrix(form):
    """The matrix of a form; its fields must be tuples in lowest terms."""
    assert isinstance(form, Form)
    assert type(form.entries) is tuple and len(form.entries) == form.size
    for row in form.entries:
        assert type(row) is tuple and len(row) == form.size
    assert form.bottom >= 1
    assert gcd(form.bottom, *[entry for row in form.entries for entry in row]) == 1
    return [[Fraction(entry, form.bottom) for entry in row] for row in form.entries]


def value(form, x):
    m = matrix(form)
    return sum((m[i][j] * x[i] * x[j] for i in range(form.size) for j in range(form.size)), Fraction(0))


def times(one, two):
    columns = list(zip(*two))
    return [[dot(row, column) for column in columns] for row in one]


def echelon(rows, width):
    """The reduced echelon form of rows of fractions and its pivot columns."""
    rows = [[Fraction(x) for x in row] for row in rows]
    pivots = []
    for column in range(width):
        at = next((k for k in range(len(pivots), len(rows)) if rows[k][column] != 0), None)
        if at is None:
            continue
        here = len(pivots)
        rows[here], rows[at] = rows[at], rows[here]
        rows[here] = [x / rows[here][column] for x in rows[here]]
        for k in range(len(rows)):
            if k != here:
                rows[k] = [x - rows[k][column] * y for x, y in zip(rows[k], rows[here])]
        pivots.append(column)
    return rows[:len(pivots)], pivots


def rank_of(rows, width):
    return len(echelon(rows, width)[1])


def inverse_of(m):
    """The inverse in the pivot columns, with 0 elsewhere, of a nonnegative matrix."""
    at = echelon(m, len(m))[1]
    block = [[m[i][j] for j in at] + [int(i == j) for j in at] for i in at]
    solved = echelon(block, len(at))[0]
    told = [[Fraction(0)] * len(m) for _ in m]
    for row, i in zip(solved, at):
        for x, j in zip(row[len(at):], at):
            told[i][j] = x
    return told


def trace_of(one, two):
    """The sum of the products of the numbers of two matrices at the same places."""
    return sum((dot(x, y) for x, y in zip(one, two)), Fraction(0))


def at_row(m, row):
    return sum((m[i][j] * row[i] * row[j] for i in range(len(m)) for j in range(len(m))), Fraction(0))


def mixed(one, factor, two):
    """The matrix of one plus factor times two."""
    return [[x + factor * y for x, y in zip(left, right)] for left, right in zip(one, two)]


def determinant_of(m):
    """By the sum over all permutations, row by row."""
    if not m:
        return Fraction(1)
    total = Fraction(0)
    for k, x in enumerate(m[0]):
        if x != 0:
            total += (-1) ** k * x * determinant_of([row[:k] + row[k + 1:] for row in m[1:]])
    return total


def nonnegative(form):
    """Whether all principal minors are at least 0, which is so exactly for nonnegative forms."""
    m = matrix(form)
    for mask in range(1, 2 ** form.size):
        chosen = [k for k in range(form.size) if mask >> k & 1]
        if determinant_of([[m[i][j] for j in chosen] for i in chosen]) < 0:
            return False
    return True


def square_of(row):
    return [row[i] * row[j] for i in range(len(row)) for j in range(i, len(row))]


def form_of_squares(size, squares):
    """The matrix of the sum of squares (top, bottom, row)."""
    m = [[Fraction(0)] * size for _ in range(size)]
    for top, bottom, row in squares:
        for i in range(size):
            for j in range(size):
                m[i][j] += Fraction(top, bottom) * row[i] * row[j]
    return m


def random_row(random, size, limit):
    return tuple(random.randint(-limit, limit) for _ in range(size))


def random_form(random, size, limit, bottom=6):
    """Any form, nonnegative or not."""
    entries = [[0] * size for _ in range(size)]
    for i in range(size):
        for j in range(i, size):
            entries[i][j] = entries[j][i] = random.randint(-limit, limit)
    return Form(entries, bottom=random.randint(1, bottom))


def random_rows(random, size, count, limit=4, weight=9, bottom=6):
    """A list in which zero rows, equal rows and multiples of rows stand now and then."""
    pairs = []
    for _ in range(count):
        kind = random.randint(0, 9)
        if kind == 0:
            row = (0,) * size
        elif kind == 1 and pairs:
            row = random.choice(pairs)[0]
        elif kind == 2 and pairs:
            row = tuple(-2 * x for x in random.choice(pairs)[0])
        else:
            row = random_row(random, size, limit)
        pairs.append((row, random.randint(1, weight)))
    return RowList(size, pairs, bottom=random.randint(1, bottom))


def sample_forms(seed, count=40, top_size=4):
    """Nonnegative forms of every size and rank, many with 0 on the diagonal."""
    random = Random(seed)
    forms = []
    for k in range(count):
        size = k % (top_size + 1)
        pairs = []
        dead = random.randint(0, 3 * size)
        for _ in range(random.randint(0, size + 1)):
            row = list(random_row(random, size, 3))
            if dead < size:
                row[dead] = 0
            pairs.append((tuple(row), random.randint(1, 5)))
        forms.append(RowList(size, pairs, bottom=random.randint(1, 4)).form)
    return forms


def sample_points(seed, size, count=12, limit=5):
    random = Random(seed)
    units = [tuple(1 if i == k else 0 for i in range(size)) for k in range(size)]
    return [(0,) * size] + units + [random_row(random, size, limit) for _ in range(count)]


def random_web(random, places, ties, strength=9, bottom=6):
    """A web with parts, single places and several ties between the same places now and then."""
    found = []
    used = random.sample(range(places), random.randint(min(2, places), places))
    for _ in range(ties if len(used) > 1 else 0):
        if found and random.randint(0, 4) == 0:
            one, two, _ = random.choice(found)
        else:
            one, two = random.sample(used, 2)
        found.append((two, one, random.randint(1, strength)))
    return Web(places, found, bottom=random.randint(1, bottom))


def sample_webs(seed, count=40, top_places=6):
    random = Random(seed)
    webs = [random_web(random, k % (top_places + 1), random.randint(0, 2 * (k % (top_places + 1)))) for k in range(count)]
    return [Web(0, []), Web(1, []), Web(5, []), Web.ring(5, strength=3), Web.complete(4), Web.grid(3, 2)] + webs


def strength_of(web, tie):
    return Fraction(tie[2], web.bottom)


def cut_of(web, side):
    """The cut from the ties."""
    return sum((strength_of(web, tie) for tie in web.ties if (tie[0] in side) != (tie[1] in side)), Fraction(0))


def parts_of(web):
    """The parts, by going from place to place."""
    found = []
    for start in range(web.places):
        if any(start in part for part in found):
            continue
        reached, left = {start}, [start]
        while left:
            here = left.pop()
            for one, two, _ in web.ties:
                for near, far in ((one, two), (two, one)):
                    if near == here and far not in reached:
                        reached.add(far)
                        left.append(far)
        found.append(tuple(sorted(reached)))
    return tuple(found)


def balanced(random, web):
    """A demand with the sum 0 in every part."""
    demand = [random.randint(-9, 9) for _ in range(web.places)]
    for part in parts_of(web):
        demand[random.choice(part)] -= sum(demand[place] for place in part)
    return demand


def as_vector(told):
    """The vector of some fractions, not in lowest terms in general."""
    bottom = 6 * lcm(*[x.denominator for x in told])
    return [int(x * bottom) for x in told], bottom


def as_fraction(x, times=1):
    """The fraction of a number, with top and bottom multiplied."""
    return x.numerator * times, x.denominator * times


def forests_of(web):
    """All forests of a web, as tuples of the indexes of their ties, told one by one."""
    parts = len(parts_of(web))
    found = []
    for chosen in combinations(range(len(web)), web.places - parts):
        if len(parts_of(web.picked(chosen))) == parts:
            found.append(chosen)
    return found


def random_survey(random, size, count, limit=4, values=9):
    """A survey in which zero rows, equal rows and multiples of rows stand now and then."""
    rows = random_rows(random, size, count, limit=limit)
    return Survey(size, [(row, random.randint(-values, values), weight) for row, weight in rows], bottom=rows.bottom)


def sample_surveys(seed, count=24, top_size=3):
    random = Random(seed)
    surveys = [random_survey(random, k % (top_size + 1), random.randint(0, 8)) for k in range(count)]
    return [Survey(0, []), Survey(2, []), Survey(2, [((0, 0), 3, 1), ((0, 0), -1, 2)])] + surveys
