"""Trees of lists that keep a thinned list of many lists that change."""

from fourcords.errors import BadSlot
from fourcords.forms import check_sizes
from fourcords.grades import grade_factor
from fourcords.ratios import multiplied
from fourcords.rowlists import RowList
from fourcords.thinning import thinned


def replaced(lists, place, rows):
    """Return the lists with another one at the place."""
    return (*lists[:place], rows, *lists[place + 1:])


def levels_behind(levels, slot, rows, grade):
    """Return the levels of a tree behind putting the list into the slot."""
    place = slot
    changed = [replaced(levels[0], place, rows)]
    for lists in levels[1:]:
        place = place // 2
        below = changed[-1]
        both = below[2 * place] + below[2 * place + 1]
        changed.append(replaced(lists, place, thinned(both, grade=grade)))
    return tuple(changed)


def check_slot(slot, count):
    """Raise BadSlot if there are not more slots than this number, or it is below 0."""
    if slot < 0 or slot >= count:
        raise BadSlot(slot)


class ThinTree:
    """A binary tree over slots with lists, in which each list above is thinned from the two below it."""

    def __init__(self, size, *, height, grade=2):
        self.size = size
        self.height = height
        self.grade = grade
        self._levels = tuple([(RowList(size, []),) * (1 << (height - level)) for level in range(height + 1)])
        self._thinnings = 0

    def put(self, slot, rows):
        """Put another list into a slot, and thin anew what hangs on it."""
        check_slot(slot, len(self._levels[0]))
        check_sizes(self, rows)
        self._levels = levels_behind(self._levels, slot, rows, self.grade)
        self._thinnings = self._thinnings + self.height

    @property
    def root(self):
        """The list at the top."""
        return self._levels[self.height][0]

    def held(self, slot):
        """Return the list in a slot."""
        check_slot(slot, len(self._levels[0]))
        return self._levels[0][slot]

    def at(self, level, place):
        """Return the list at a place of a level."""
        return self._levels[level][place]

    @property
    def thinnings(self):
        """How many lists were thinned for the tree so far."""
        return self._thinnings


def tree_factor(tree):
    """Return the factor within which the root keeps the sum of all lists, a fraction."""
    factor = 1, 1
    for _ in range(tree.height):
        factor = multiplied(factor, grade_factor(tree.grade))
    return factor
