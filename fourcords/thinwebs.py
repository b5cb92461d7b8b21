"""Webs thinned to few ties."""

from fourcords.thinning import thinned
from fourcords.webs import Web


def thinned_web(web, *, grade=2, order=None):
    """Return the web of the ties that are kept, with their new strengths."""
    return Web.of_rows(thinned(web.rows, grade=grade, order=order))
