"""Fourcords: lists of weighted rows thinned to four rows an unknown."""
