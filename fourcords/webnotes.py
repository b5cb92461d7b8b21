"""Webs written as strings."""

from fourcords.notation import at_most, check_lowest, named_numbers, parsed, text_of, whole, wholes
from fourcords.webs import Web


def format_web(web):
    """Return the string for a web."""
    first = f"web {len(web)} places {web.places} over {web.bottom}"
    return text_of([first, *[f"{one}-{two}: {strength}" for one, two, strength in web.ties]])


def first_of_web(line):
    """Return the numbers of ties and places and the bottom of a first line, or None."""
    return at_most(named_numbers(line, ["web", "places", "over"], [0, 0, 1]), [60, 10])


def tie_of(first, line):
    """Return the tie of a line, or None."""
    words = line.split(": ")
    if len(words) != 2:
        return None
    ends = wholes(words[0].split("-"), [0, 0])
    strength = whole(words[1], 1)
    if ends is None or strength is None or not ends[0] < ends[1] < first[1]:
        return None
    return ends[0], ends[1], strength


def parse_web(text):
    """Return the web that a string writes."""
    first, ties = parsed(text, first_of_web, tie_of)
    _, places, bottom = first
    web = Web(places, ties, bottom=bottom)
    check_lowest(bottom, web.bottom)
    return web
