"""The errors of the program."""

from fourcords.copies import copied


class CordError(ValueError):
    """The base class of all errors of the program."""


class ZeroBottom(CordError):
    """A fraction or a vector has the bottom 0."""


class NotSquare(CordError):
    """A row of a matrix does not have as many numbers as there are rows."""

    def __init__(self, row):
        self.row = copied(row)


class NotSymmetric(CordError):
    """A matrix has another number at a place than at the mirrored place."""

    def __init__(self, row, column):
        self.row = copied(row)
        self.column = copied(column)


class SizesDiffer(CordError):
    """Two things that belong together have different sizes."""

    def __init__(self, one, two):
        self.one = copied(one)
        self.two = copied(two)


class BelowZero(CordError):
    """A form is not nonnegative: its value at the point is below 0."""

    def __init__(self, point):
        self.point = copied(point)


class BadRow(CordError):
    """A row does not have the form that is asked for."""

    def __init__(self, index):
        self.index = copied(index)


class BadWeight(CordError):
    """A weight or a strength is below 1."""

    def __init__(self, index):
        self.index = copied(index)


class NoBasis(CordError):
    """A sequence of indexes is not a basis of a row list."""


class NoSolution(CordError):
    """A demand cannot be met: its product with the free point is not 0."""

    def __init__(self, point):
        self.point = copied(point)


class NoInverse(CordError):
    """A changed form has no inverse of this kind."""


class OutsideFence(CordError):
    """A stand is not strictly inside the fence of this side at the point."""

    def __init__(self, side, point):
        self.side = copied(side)
        self.point = copied(point)


class RunOver(CordError):
    """A run has no steps left."""


class BadPick(CordError):
    """A pick is not let in a run."""

    def __init__(self, index, count):
        self.index = copied(index)
        self.count = copied(count)


class BadStep(CordError):
    """The pick at this step of a log cannot be taken."""

    def __init__(self, step):
        self.step = copied(step)


class StepsLeft(CordError):
    """A run still has steps left."""

    def __init__(self, left):
        self.left = copied(left)


class BadTie(CordError):
    """A tie does not join two different places of the web."""

    def __init__(self, index):
        self.index = copied(index)


class SamePlace(CordError):
    """Two places that must differ are the same."""

    def __init__(self, place):
        self.place = copied(place)


class NotWithin(CordError):
    """A form is not within the factors of another one: the point breaks this side."""

    def __init__(self, side, point):
        self.side = copied(side)
        self.point = copied(point)


class BadSlot(CordError):
    """A tree has no slot with this number."""

    def __init__(self, slot):
        self.slot = copied(slot)


class BadNotation(CordError):
    """A line of a string does not have the form that is due."""

    def __init__(self, line):
        self.line = copied(line)
