"""How a row leads from one stand to others."""

from stackwarden.asks import asked, catcher, leaves
from stackwarden.kinds import fields_of
from stackwarden.rows import ENDING, FAULTING, GOING, OF_RECORDS
from stackwarden.spots import replaced
from stackwarden.stands import all_beneath


def entry(book, part):
    takes = book[1][part][0]
    others = book[1][part][2] - len(takes)
    return (tuple(takes) + (("any",),) * others, ())


def breaks(book, part, at, stand):
    row = book[1][part][4][at]
    wanted = asked(book, part, row)
    under = len(stand[1]) - len(wanted)
    if under < 0:
        return "empty"
    if not all_beneath(book[0], stand[1][under:], wanted):
        return "kind"
    if under + leaves(row) > book[1][part][3]:
        return "high"
    return None


# The kinds that a row puts on the stack, other than by a jump of kin; took are the kinds that it asked for.
def kinds_put(book, row, boxes, took):
    sign = row[0]
    if sign == "load":
        return (boxes[row[1]],)
    if sign == "dup":
        return (took[0], took[0])
    if sign == "swap":
        return (took[1], took[0])
    if sign == "kin":
        return (took[0],)
    if sign == "call":
        return (book[1][row[1]][1],)
    if sign in OF_RECORDS:
        return kinds_put_of_records(book[0], row, took)
    return (("number",),) * leaves(row)


def kinds_put_of_records(makes, row, took):
    sign = row[0]
    c = row[1]
    if sign == "make":
        return (("raw", c, 0),)
    if sign == "fill":
        return (("raw", c, took[0][2] | (1 << row[2])),)
    if sign == "begin":
        return (("whole", c),)
    if sign == "get":
        return (fields_of(makes, c)[row[2]],)
    return ()


# The stand behind a row that goes on behind itself, or by jump or zero at its place.
def stand_behind(book, part, row, stand):
    boxes = stand[0]
    under = len(stand[1]) - len(asked(book, part, row))
    took = stand[1][under:]
    stack = stand[1][:under] + kinds_put(book, row, boxes, took)
    if row[0] == "store":
        boxes = replaced(boxes, row[1], took[0])
    return (boxes, stack)


def outs(book, part, at, stand):
    row = book[1][part][4][at]
    sign = row[0]
    told = []
    behind = stand_behind(book, part, row, stand)
    if sign not in ENDING:
        told.append(("next", at + 1, behind))
    if sign == "kin":
        told.append(("jump", row[2], (behind[0], behind[1][:-1] + (("whole", row[1]),))))
    elif sign in GOING:
        told.append(("jump", row[1], behind))
    caught = catcher(book[1][part][5], at)
    if sign in FAULTING and caught is not None:
        told.append(("catch", caught, (stand[0], (("number",),))))
    return told
