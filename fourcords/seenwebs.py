"""Webs that are seen from some places of a web."""

from fourcords.seen import seen_from
from fourcords.webs import Web


def seen_web(web, places):
    """Return the web that is seen from the places, numbered from 0 in their order."""
    form = seen_from(web.form, places)
    ties = [(one, two, -form.entries[one][two]) for one in range(form.size) for two in range(one + 1, form.size)
            if form.entries[one][two] < 0]
    return Web(form.size, ties, bottom=form.bottom)
