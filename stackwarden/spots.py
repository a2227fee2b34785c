"""Tuples of which one spot is changed."""


def replaced(some, spot, thing):
    return some[:spot] + (thing,) + some[spot + 1:]
