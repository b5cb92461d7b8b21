"""Webs: places joined by ties that have strengths."""

from fourcords.copies import copied
from fourcords.errors import BadRow, BadTie, BadWeight
from fourcords.rowlists import RowList


def check_ties(places, ties):
    """Raise an error for the first tie that does not join two places or has a strength below 1."""
    for index, (one, two, strength) in enumerate(ties):
        if one == two or min(one, two) < 0 or max(one, two) >= places:
            raise BadTie(index)
        if strength < 1:
            raise BadWeight(index)


def tie_row(places, one, two):
    """Return the row with 1 at the first place, -1 at the second one and 0 elsewhere."""
    row = [0] * places
    row[one] = 1
    row[two] = -1
    return tuple(row)


def tie_of_row(index, row):
    """Return the places where 1 and -1 stand in a row; raise BadRow if it is not of this kind."""
    ends = [place for place, number in enumerate(row) if number != 0]
    if sorted([row[end] for end in ends]) != [-1, 1]:
        raise BadRow(index)
    return ends


class Web:
    """Places, counted from 0, and ties with strengths between them."""

    def __init__(self, places, ties, *, bottom=1):
        given = copied(ties)
        check_ties(places, given)
        ordered = [(min(one, two), max(one, two), strength) for one, two, strength in given]
        pairs = [(tie_row(places, one, two), strength) for one, two, strength in ordered]
        rows = RowList(places, pairs, bottom=bottom)
        self.places = places
        self.ties = tuple([(one, two, rows.pairs[index][1]) for index, (one, two, _) in enumerate(ordered)])
        self.bottom = rows.bottom
        self.rows = rows
        self.form = rows.form

    def __len__(self):
        return len(self.ties)

    def __iter__(self):
        return iter(self.ties)

    def __eq__(self, other):
        if not isinstance(other, Web):
            return False
        return self.places == other.places and self.ties == other.ties and self.bottom == other.bottom

    def picked(self, indexes):
        """Return the web with the same places and the ties with these indexes, in the order of the indexes."""
        return Web(self.places, [self.ties[index] for index in indexes], bottom=self.bottom)

    @classmethod
    def complete(cls, places, *, strength=1):
        """Return the web with a tie for any two places."""
        return cls(places, [(one, two, strength) for one in range(places) for two in range(one + 1, places)])

    @classmethod
    def ring(cls, places, *, strength=1):
        """Return the web whose ties lead once around, from each place to the next one."""
        ties = [(place, place + 1, strength) for place in range(places - 1)]
        return cls(places, ties + [(0, places - 1, strength)] if places > 2 else ties)

    @classmethod
    def grid(cls, across, down, *, strength=1):
        """Return the web with rows of places, each tied to its right neighbour and to the place below it."""
        places = across * down
        ties = []
        for place in range(places):
            if (place + 1) % across != 0:
                ties.append((place, place + 1, strength))
            if place + across < places:
                ties.append((place, place + across, strength))
        return cls(places, ties)

    @classmethod
    def of_rows(cls, rows):
        """Return the web whose ties are the pairs of a row list."""
        ties = []
        for index, (row, weight) in enumerate(rows.pairs):
            one, two = tie_of_row(index, row)
            ties.append((one, two, weight))
        return cls(rows.size, ties, bottom=rows.bottom)
