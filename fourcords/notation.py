"""What the notes of rows, webs, logs and squares have in common: lines, numbers and rows."""

from fourcords.errors import BadNotation


def whole(word, least):
    """Return the whole number that a word writes, None if it writes none or one below the least, at least 0."""
    if not word.isdigit() or (word.startswith("0") and word != "0"):
        return None
    number = int(word)
    return number if number >= least else None


def signed(word):
    """Return the whole number, perhaps below 0, that a word writes, or None."""
    if not word.startswith("-"):
        return whole(word, 0)
    number = whole(word[1:], 1)
    return None if number is None else -number


def wholes(words, leasts):
    """Return the whole numbers that the words write, each with its least one, or None."""
    if len(words) != len(leasts):
        return None
    numbers = [whole(word, least) for word, least in zip(words, leasts)]
    return None if None in numbers else numbers


def named_numbers(line, names, leasts):
    """Return the numbers of a line that has each of the names and then a number, or None."""
    words = line.split(" ")
    return wholes(words[1::2], leasts) if words[::2] == names else None


def at_most(numbers, limits):
    """Return the numbers, None if there are none or one of the first ones is above its limit."""
    if numbers is None or any([number > limit for number, limit in zip(numbers, limits)]):
        return None
    return numbers


def row_of(words, size):
    """Return the row that the words write, None if they write no row of this size."""
    numbers = [signed(word) for word in words]
    return None if None in numbers or len(numbers) != size else tuple(numbers)


def row_text(row):
    """Return the numbers of a row, each with a space in front."""
    return "".join([f" {number}" for number in row])


def text_of(lines):
    """Return the lines, each with a newline behind it."""
    return "".join([f"{line}\n" for line in lines])


def parsed(text, read_first, read_line):
    """Return what the first line and the lines behind it say, or raise BadNotation.

    The function read_first tells the numbers of the first line, of which the first one is how many
    lines follow; read_line tells from these numbers and a line what the line says. Both return None
    for a line that does not have its form.
    """
    lines = text.split("\n")
    # What stands behind the last newline is no line yet; it is empty if every line is ended.
    ended = len(lines) - 1
    first = read_first(lines[0]) if ended > 0 else None
    if first is None:
        raise BadNotation(1)
    told = []
    for at in range(1, first[0] + 1):
        item = read_line(first, lines[at]) if at < ended else None
        if item is None:
            raise BadNotation(at + 1)
        told.append(item)
    if lines[first[0] + 1:] != [""]:
        raise BadNotation(first[0] + 2)
    return first, told


def check_lowest(told, bottom):
    """Raise BadNotation if the bottom in lowest terms is not the one that was told in the first line."""
    if told != bottom:
        raise BadNotation(1)
