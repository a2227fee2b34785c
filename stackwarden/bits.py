"""Code as bytes: written, and read again."""

from stackwarden.errors import NoCode
from stackwarden.rows import MOST_ROWS, SIGNS, sign_number, wants

MOST_PUSH = 4
MOST_FIELD = 7


# The least number of bytes that hold a word with its sign.
def push_size(word):
    if word == 0:
        return 0
    size = 1
    half = 128
    while not -half <= word < half:
        size = size + 1
        half = half * 256
    return size


# What the low bits of the first byte tell of: a word (its size), a box, a make, a part, or None.
def low_want(sign):
    wanted = wants(sign)
    if len(wanted) == 0 or wanted[0] == "place":
        return None
    return wanted[0]


# What stands behind the first byte: a word, a field, a place, or None.
def tail_want(sign):
    wanted = wants(sign)
    if len(wanted) == 0 or wanted[-1] not in ("word", "field", "place"):
        return None
    return wanted[-1]


def low_bits(row):
    want = low_want(row[0])
    if want is None:
        return 0
    if want == "word":
        return push_size(row[1])
    return row[1]


def tail_size(sign, low):
    want = tail_want(sign)
    if want == "word":
        return low
    if want == "field":
        return 1
    if want == "place":
        return 2
    return 0


# The bytes of a number, high one first; one below nought comes out as itself and 256 ** size.
def split_number(number, size):
    return [(number >> (8 * k)) & 255 for k in range(size - 1, -1, -1)]


def starts_of(rows):
    starts = []
    ahead = 0
    for row in rows:
        starts.append(ahead)
        ahead = ahead + 1 + tail_size(row[0], low_bits(row))
    return starts


def bytes_of(rows):
    starts = starts_of(rows)
    some = []
    for row in rows:
        low = low_bits(row)
        some.append(sign_number(row[0]) * 8 + low)
        number = row[-1]
        if tail_want(row[0]) == "place":
            number = starts[number]
        some.extend(split_number(number, tail_size(row[0], low)))
    return some


def low_is_right(sign, low):
    want = low_want(sign)
    if want is None:
        return low == 0
    if want == "word":
        return low <= MOST_PUSH
    return True


def joined_number(tail):
    number = 0
    for byte in tail:
        number = number * 256 + byte
    return number


def signed_number(tail):
    number = joined_number(tail)
    if len(tail) > 0 and tail[0] > 127:
        return number - (1 << (8 * len(tail)))
    return number


# The row that begins at a byte, its place still told as a number of bytes.
def row_at(some, at):
    number = some[at] >> 3
    low = some[at] & 7
    if number >= len(SIGNS):
        raise NoCode(at, "word")
    sign = SIGNS[number]
    if not low_is_right(sign, low):
        raise NoCode(at, "low")
    behind = at + 1 + tail_size(sign, low)
    if behind > len(some):
        raise NoCode(at, "short")
    return row_of(sign, low, some[at + 1:behind], at)


def row_of(sign, low, tail, at):
    if sign == "push":
        word = signed_number(tail)
        if push_size(word) < low:
            raise NoCode(at, "long")
        return (sign, word)
    row = (sign,)
    if low_want(sign) is not None:
        row = row + (low,)
    if len(tail) > 0:
        row = row + (joined_number(tail),)
    if tail_want(sign) == "field" and row[-1] > MOST_FIELD:
        raise NoCode(at, "low")
    return row


# A row with its number of bytes turned into the place of the row that begins there.
def placed(row, places, at):
    if tail_want(row[0]) != "place":
        return row
    if row[-1] not in places:
        raise NoCode(at, "amid")
    return row[:-1] + (places[row[-1]],)


def rows_of(some):
    rows = []
    starts = []
    places = {}
    at = 0
    while at < len(some):
        if len(rows) == MOST_ROWS:
            raise NoCode(at, "many")
        row = row_at(some, at)
        places[at] = len(rows)
        starts.append(at)
        rows.append(row)
        at = at + 1 + tail_size(row[0], some[at] & 7)
    return [placed(row, places, start) for row, start in zip(rows, starts)]
