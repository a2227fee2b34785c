"""What a row asks of the stack, how many values it leaves there, and where its faults are caught."""

from stackwarden.kinds import fields_of, full_mask

# What is asked by the signs that ask the same in every book.
ALWAYS = {
    "push": (),
    "load": (),
    "store": (("any",),),
    "dup": (("any",),),
    "swap": (("any",), ("any",)),
    "drop": (("any",),),
    "add": (("number",), ("number",)),
    "sub": (("number",), ("number",)),
    "mul": (("number",), ("number",)),
    "div": (("number",), ("number",)),
    "rem": (("number",), ("number",)),
    "less": (("number",), ("number",)),
    "same": (("number",), ("number",)),
    "jump": (),
    "zero": (("number",),),
    "kin": (("whole", 0),),
    "make": (),
    "toss": (("number",),),
    "say": (("number",),),
}

# How many values are left by the signs that do not leave one.
LEFT = {"store": 0, "dup": 2, "swap": 2, "drop": 0, "jump": 0, "zero": 0, "put": 0, "toss": 0, "say": 0, "give": 0}


def asked(book, part, row):
    sign = row[0]
    if sign in ALWAYS:
        return list(ALWAYS[sign])
    parts = book[1]
    if sign == "call":
        return list(parts[row[1]][0])
    if sign == "give":
        return [parts[part][1]]
    return asked_of_records(book[0], row)


# What fill, put, begin and get ask.
def asked_of_records(makes, row):
    sign = row[0]
    c = row[1]
    if sign == "begin":
        return [("raw", c, full_mask(makes, c))]
    if sign == "get":
        return [("whole", c)]
    field = fields_of(makes, c)[row[2]]
    if sign == "fill":
        return [("raw", c, 0), field]
    return [("whole", c), field]


def leaves(row):
    return LEFT.get(row[0], 1)


def catcher(stretches, at):
    for stretch in stretches:
        if stretch[0] <= at < stretch[1]:
            return stretch[2]
    return None
