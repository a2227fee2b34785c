"""Units: makes and parts with names, some owned and others only believed."""


# A part that is only believed is never come to, so it only has to be one that is let by.
def part_alone(told):
    takes = list(told[1])
    body = told[3]
    if body is None:
        return (takes, told[2], len(takes), 1, [("push", 0), ("toss",)], [])
    return (takes, told[2], body[0], body[1], list(body[2]), list(body[3]))


def book_of(unit):
    makes = [(make[1], list(make[2])) for make in unit[0]]
    return (makes, [part_alone(part) for part in unit[1]])


# The names of a unit's makes, each with whether it is owned.
def make_claims(unit):
    return [(make[0], make[3]) for make in unit[0]]


# The same of its parts.
def part_claims(unit):
    return [(part[0], part[3] is not None) for part in unit[1]]
