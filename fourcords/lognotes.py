"""Logs of runs written as strings."""

from fourcords.notation import at_most, named_numbers, parsed, text_of


def format_log(log):
    """Return the string for a sequence of picks."""
    return text_of([f"log {len(log)}", *[f"take {index} by {count}" for index, count in log]])


def first_of_log(line):
    """Return the number of picks of a first line, alone in a list, or None."""
    return at_most(named_numbers(line, ["log"], [0]), [100])


def pick_of(_, line):
    """Return the pick of a line, or None."""
    numbers = named_numbers(line, ["take", "by"], [0, 0])
    return None if numbers is None else tuple(numbers)


def parse_log(text):
    """Return the sequence of picks that a string writes."""
    _, picked = parsed(text, first_of_log, pick_of)
    return tuple(picked)
