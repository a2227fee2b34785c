"""Makes of records, and kinds of what stands in boxes, on stacks and in fields."""


# The makes that a make is under, itself first, make 0 last.
def elders_of(makes, c):
    elders = []
    while c is not None:
        elders.append(c)
        c = makes[c][0]
    return elders


def fields_of(makes, c):
    fields = []
    for elder in elders_of(makes, c):
        fields = list(makes[elder][1]) + fields
    return fields


def is_under(makes, c, other):
    return other in elders_of(makes, c)


def full_mask(makes, c):
    return (1 << len(fields_of(makes, c))) - 1


# Whether a kind is one of these makes, of which the elders must be right.
def is_kind(makes, kind):
    if kind[0] in ("any", "number"):
        return True
    if not 0 <= kind[1] < len(makes):
        return False
    return kind[0] == "whole" or 0 <= kind[2] <= full_mask(makes, kind[1])


def beneath(makes, kind, other):
    if other[0] == "any":
        return True
    if kind[0] != other[0]:
        return False
    if kind[0] == "whole":
        return is_under(makes, kind[1], other[1])
    if kind[0] == "raw":
        return kind[1] == other[1] and kind[2] & other[2] == other[2]
    return True


# There is always one, since all makes are under make 0.
def nearest(makes, c, other):
    others = elders_of(makes, other)
    return [elder for elder in elders_of(makes, c) if elder in others][0]


def joined(makes, kind, other):
    if kind[0] == "number" and other[0] == "number":
        return ("number",)
    if kind[0] == "whole" and other[0] == "whole":
        return ("whole", nearest(makes, kind[1], other[1]))
    if kind[0] == "raw" and other[0] == "raw" and kind[1] == other[1]:
        return ("raw", kind[1], kind[2] & other[2])
    return ("any",)
