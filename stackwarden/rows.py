"""Rows: the signs, their numbers, and what is a row."""

from stackwarden.words import is_word

MOST_ROWS = 100

# A sign's number is its place here.
SIGNS = (
    "push", "load", "store", "dup", "swap", "drop",
    "add", "sub", "mul", "div", "rem", "less", "same",
    "jump", "zero", "kin", "make", "fill", "begin", "get", "put",
    "call", "toss", "say", "give",
)

# The signs that reckon two numbers.
RECKONING = ("add", "sub", "mul", "div", "rem", "less", "same")

# The signs that make, change or read a record.
OF_RECORDS = ("make", "fill", "begin", "get", "put")

# The signs that may go on at a place that they name.
GOING = ("jump", "zero", "kin")

# The signs behind which the next row is never gone on at.
ENDING = ("jump", "toss", "give")

# The signs that may be a fault.
FAULTING = ("div", "rem", "toss", "call")

# What the numbers of a sign stand for; signs without numbers are left out.
WANTS = {
    "push": ("word",),
    "load": ("box",),
    "store": ("box",),
    "jump": ("place",),
    "zero": ("place",),
    "kin": ("make", "place"),
    "make": ("make",),
    "fill": ("make", "field"),
    "begin": ("make",),
    "get": ("make", "field"),
    "put": ("make", "field"),
    "call": ("part",),
}

# The greatest number of each; the least is 0. A word has bounds of its own.
MOST = {"box": 7, "make": 7, "field": 7, "part": 7, "place": 99}


def sign_number(sign):
    return SIGNS.index(sign)


def wants(sign):
    return WANTS.get(sign, ())


# True is an int for Python, but no number here.
def is_whole(thing):
    return isinstance(thing, int) and not isinstance(thing, bool)


def fits(want, thing):
    if not is_whole(thing):
        return False
    if want == "word":
        return is_word(thing)
    return 0 <= thing <= MOST[want]


def is_row(thing):
    if not isinstance(thing, tuple) or len(thing) == 0:
        return False
    sign = thing[0]
    if not isinstance(sign, str) or sign not in SIGNS:
        return False
    wanted = wants(sign)
    if len(thing) != len(wanted) + 1:
        return False
    return all([fits(want, number) for want, number in zip(wanted, thing[1:])])
