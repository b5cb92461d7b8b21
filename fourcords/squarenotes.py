"""Squares written as strings."""

from fourcords.notation import at_most, named_numbers, parsed, row_of, row_text, text_of, wholes


def format_squares(squares):
    """Return the string for a sequence of squares whose rows have the same size."""
    size = len(squares[0][2]) if squares else 0
    first = f"squares {len(squares)} size {size}"
    return text_of([first, *[f"{top}/{bottom} of{row_text(row)}" for top, bottom, row in squares]])


def first_of_squares(line):
    """Return the number of squares and their size of a first line, or None."""
    numbers = at_most(named_numbers(line, ["squares", "size"], [0, 0]), [60, 10])
    return None if numbers is None or (numbers[0] == 0 and numbers[1] > 0) else numbers


def square_of(first, line):
    """Return the square of a line, or None."""
    words = line.split(" ")
    factor = wholes(words[0].split("/"), [1, 1])
    row = row_of(words[2:], first[1])
    if factor is None or row is None or words[1:2] != ["of"]:
        return None
    return factor[0], factor[1], row


def parse_squares(text):
    """Return the sequence of squares that a string writes."""
    _, squares = parsed(text, first_of_squares, square_of)
    return tuple(squares)
