"""Books: makes and parts, and whether they are right."""

from stackwarden.errors import NoBook
from stackwarden.kinds import fields_of, is_kind
from stackwarden.rows import ENDING, MOST_ROWS, is_row, wants

MOST_MAKES = 8
MOST_FIELDS = 6
MOST_PARTS = 8
MOST_BOXES = 8
MOST_HEIGHT = 8
MOST_STRETCHES = 8


# A book of its own, on which later changes of the one that was handed in have no hold.
def copied(book):
    makes = [(make[0], list(make[1])) for make in book[0]]
    parts = [(list(part[0]), part[1], part[2], part[3], list(part[4]), list(part[5])) for part in book[1]]
    return (makes, parts)


def elder_is_right(elder, c):
    return elder is not None and 0 <= elder < c


def fields_are_right(makes, c):
    if len(fields_of(makes, c)) > MOST_FIELDS:
        return False
    return all([is_kind(makes, kind) for kind in makes[c][1]])


def makes_are_right(makes):
    if not 1 <= len(makes) <= MOST_MAKES or makes[0] != (None, []):
        return False
    # A field's kind may name a make behind its own, so no field is looked at ahead of all elders.
    if not all([elder_is_right(makes[c][0], c) for c in range(1, len(makes))]):
        return False
    return all([fields_are_right(makes, c) for c in range(len(makes))])


# All of a part that goes ahead of its rows.
def head_is_right(makes, part):
    if not all([is_kind(makes, kind) for kind in part[0] + [part[1]]]):
        return False
    if not 0 <= part[2] <= MOST_BOXES or not 1 <= part[3] <= MOST_HEIGHT:
        return False
    return len(part[0]) <= part[2] and 1 <= len(part[4]) <= MOST_ROWS


# Whether what a row's number names is there; a field's make is asked ahead of the field.
def is_there(book, part, row, want, number):
    if want == "box":
        return number < part[2]
    if want == "make":
        return number < len(book[0])
    if want == "field":
        return number < len(fields_of(book[0], row[1]))
    if want == "part":
        return number < len(book[1])
    if want == "place":
        return number < len(part[4])
    return True


def row_is_right(book, part, row):
    if not is_row(row):
        return False
    for want, number in zip(wants(row[0]), row[1:]):
        if not is_there(book, part, row, want, number):
            return False
    return True


# The place of the first wrong row, or of a last row that is none to end with; None where all are right.
def wrong_place(book, part):
    rows = part[4]
    for at, row in enumerate(rows):
        if not row_is_right(book, part, row):
            return at
    if rows[-1][0] not in ENDING:
        return len(rows) - 1
    return None


def stretch_is_right(stretch, size):
    return 0 <= stretch[0] < stretch[1] <= size and 0 <= stretch[2] < size


def stretches_are_right(part):
    if len(part[5]) > MOST_STRETCHES:
        return False
    return all([stretch_is_right(stretch, len(part[4])) for stretch in part[5]])


def check_part(book, number):
    part = book[1][number]
    if not head_is_right(book[0], part):
        raise NoBook(number, None)
    at = wrong_place(book, part)
    if at is not None:
        raise NoBook(number, at)
    if not stretches_are_right(part):
        raise NoBook(number, None)


def check_book(book):
    parts = book[1]
    if not makes_are_right(book[0]) or not 1 <= len(parts) <= MOST_PARTS:
        raise NoBook(None, None)
    for number in range(len(parts)):
        check_part(book, number)
