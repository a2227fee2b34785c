"""What a unit tells, with other numbers, or names, for its makes and parts."""

from stackwarden.rows import wants


# Here and below, makes are what stands for each of the unit's own numbers of makes; so are parts.
def turned_kind(kind, makes):
    if kind[0] in ("any", "number"):
        return kind
    return (kind[0], makes[kind[1]]) + kind[2:]


def turned_kinds(kinds, makes):
    return [turned_kind(kind, makes) for kind in kinds]


# Of any make of a unit but its first.
def turned_make(make, makes):
    return (makes[make[1]], turned_kinds(make[2], makes))


def turned_number(want, number, makes, parts):
    if want == "make":
        return makes[number]
    if want == "part":
        return parts[number]
    return number


def turned_row(row, makes, parts):
    numbers = [turned_number(want, number, makes, parts) for want, number in zip(wants(row[0]), row[1:])]
    return (row[0],) + tuple(numbers)


# Of a part that has a body.
def turned_part(part, makes, parts):
    body = part[3]
    rows = [turned_row(row, makes, parts) for row in body[2]]
    return (turned_kinds(part[1], makes), turned_kind(part[2], makes), body[0], body[1], rows, list(body[3]))
