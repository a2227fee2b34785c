"""Words: whole numbers within bounds, and how two of them are reckoned."""

from stackwarden.errors import Nought

HALF = 2147483648
TURN = 4294967296


def is_word(number):
    return -HALF <= number < HALF


def wrapped(number):
    return (number + HALF) % TURN - HALF


def reckoned(sign, one, other):
    if sign == "add":
        return wrapped(one + other)
    if sign == "sub":
        return wrapped(one - other)
    if sign == "mul":
        return wrapped(one * other)
    if sign == "less":
        return 1 if one < other else 0
    if sign == "same":
        return 1 if one == other else 0
    return divided(sign, one, other)


def divided(sign, one, other):
    if other == 0:
        raise Nought()
    if sign == "div":
        # The least word by -1 is the one quotient that is no word.
        return wrapped(one // other)
    return one % other
