"""Stands: the kinds in a part's boxes and on its stack."""

from stackwarden.kinds import beneath, joined


def all_beneath(makes, some, others):
    if len(some) != len(others):
        return False
    return all([beneath(makes, kind, other) for kind, other in zip(some, others)])


def stand_beneath(makes, one, other):
    return all_beneath(makes, one[0], other[0]) and all_beneath(makes, one[1], other[1])


def all_joined(makes, some, others):
    return tuple([joined(makes, kind, other) for kind, other in zip(some, others)])


def stand_joined(makes, one, other):
    return (all_joined(makes, one[0], other[0]), all_joined(makes, one[1], other[1]))
