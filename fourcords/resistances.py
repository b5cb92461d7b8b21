"""Resistances between places of a web, and its forests."""

from fourcords.forms import Form
from fourcords.inverses import determinant
from fourcords.judging import leads
from fourcords.losses import least_loss
from fourcords.parts import part_names
from fourcords.seen import block_of
from fourcords.shares import shares
from fourcords.webs import tie_row


def resistance(web, one, two):
    """Return the least loss of a flow of 1 from one place to the other, None if they are in different parts."""
    if one == two:
        return 0, 1
    names = part_names(web)
    if names[one] != names[two]:
        return None
    return least_loss(web, (tie_row(web.places, one, two), 1))


def tie_shares(web):
    """Return the strength of each tie times the resistance between its ends, a tuple of fractions."""
    return shares(web.rows)


def forest_weight(web):
    """Return the sum of the weights of all forests, a fraction."""
    # By the matrix tree theorem: the leads are all places but one of each part.
    places = leads(web.form)
    return determinant(Form(block_of(web.form, places, places), bottom=web.form.bottom))
