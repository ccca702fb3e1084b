"""Truebid: things sold by bids, so that nobody gains by a lie."""
