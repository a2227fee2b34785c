"""Values of the watched machine, and the kinds that they have."""

from stackwarden.kinds import is_under


def has_kind(makes, heap, value, kind):
    if kind[0] == "any":
        return True
    if value is None:
        return False
    if kind[0] == "number" or value[0] == "number":
        return kind[0] == value[0]
    return record_has_kind(makes, heap[value[1]], kind)


# Of whole and raw kinds alone.
def record_has_kind(makes, record, kind):
    if kind[0] == "whole":
        return record[1] and is_under(makes, record[0], kind[1])
    return record[0] == kind[1] and record[2] & kind[2] == kind[2]
