"""Makes and kinds that several tests ask about."""

ANY = ("any",)
NUMBER = ("number",)


def some_makes():
    """A new list each time, so that a test may change its own.

    0 - 1 - 3 - 5
      |   - 4
      - 2 - 6
      - 7
    """
    return [
        (None, []),
        (0, [NUMBER, ("whole", 5)]),
        (0, [("raw", 6, 1)]),
        (1, [ANY]),
        (1, []),
        (3, [("whole", 0), NUMBER, ("whole", 1)]),
        (2, [NUMBER]),
        (0, []),
    ]


# The makes that each make is under, reckoned by hand.
UNDER = {0: {0}, 1: {0, 1}, 2: {0, 2}, 3: {0, 1, 3}, 4: {0, 1, 4}, 5: {0, 1, 3, 5}, 6: {0, 2, 6}, 7: {0, 7}}
MASKS = {0: 0, 1: 3, 2: 1, 3: 7, 4: 3, 5: 63, 6: 3, 7: 0}


def all_kinds():
    kinds = [ANY, NUMBER]
    for c in range(8):
        kinds.append(("whole", c))
        kinds.extend(("raw", c, mask) for mask in range(MASKS[c] + 1))
    return kinds
