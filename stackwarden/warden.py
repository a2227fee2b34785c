"""The warden: goes through a part, joining, till the stands at all its places rest."""

from stackwarden.errors import NoPass
from stackwarden.flow import breaks, entry, outs
from stackwarden.stands import stand_joined


# The stand at a place when another one comes there.
def met(book, part, at, found, stand):
    if found is None:
        return stand
    if len(found[1]) != len(stand[1]):
        raise NoPass(part, at, "meet")
    return stand_joined(book[0], found, stand)


def stands(book, part):
    found = [None for row in book[1][part][4]]
    found[0] = entry(book, part)
    waiting = [0]
    while len(waiting) > 0:
        at = waiting.pop()
        word = breaks(book, part, at, found[at])
        if word is not None:
            raise NoPass(part, at, word)
        for way in outs(book, part, at, found[at]):
            stand = met(book, part, way[1], found[way[1]], way[2])
            if stand != found[way[1]]:
                found[way[1]] = stand
                waiting.append(way[1])
    return found


def warded(book):
    return [stands(book, part) for part in range(len(book[1]))]
