"""Row lists written as strings."""

from fourcords.notation import at_most, check_lowest, named_numbers, parsed, row_of, row_text, text_of, whole
from fourcords.rowlists import RowList


def format_rows(rows):
    """Return the string for a row list."""
    first = f"rows {len(rows)} size {rows.size} over {rows.bottom}"
    return text_of([first, *[f"{weight}:{row_text(row)}" for row, weight in rows.pairs]])


def first_of_rows(line):
    """Return the number of pairs, the size and the bottom of a first line, or None."""
    return at_most(named_numbers(line, ["rows", "size", "over"], [0, 0, 1]), [60, 10])


def pair_of(first, line):
    """Return the pair of a line, or None."""
    words = line.split(" ")
    weight = whole(words[0][:-1], 1) if words[0].endswith(":") else None
    row = row_of(words[1:], first[1])
    return None if weight is None or row is None else (row, weight)


def parse_rows(text):
    """Return the row list that a string writes."""
    first, pairs = parsed(text, first_of_rows, pair_of)
    _, size, bottom = first
    rows = RowList(size, pairs, bottom=bottom)
    check_lowest(bottom, rows.bottom)
    return rows
