"""Papers: stands told ahead for places that rows lead to, and the checker, which goes through the rows but once."""

from stackwarden.errors import NoPaper
from stackwarden.flow import breaks, entry, outs
from stackwarden.kinds import is_kind
from stackwarden.stands import stand_beneath
from stackwarden.warden import stands


def papers_of(book, part):
    found = stands(book, part)
    places = {}
    for at, stand in enumerate(found):
        if stand is not None:
            for lead in outs(book, part, at, stand):
                if lead[0] != "next":
                    places[lead[1]] = True
    return [(at, found[at]) for at in sorted(places)]


# Whether a stand fits the part's boxes and height, whatever stands at the place.
def is_stand(book, part, stand):
    if len(stand[0]) != book[1][part][2] or len(stand[1]) > book[1][part][3]:
        return False
    return all([is_kind(book[0], kind) for kind in stand[0] + stand[1]])


def check_form(book, part, papers):
    least = 0
    for paper in papers:
        at = paper[0]
        if not least <= at < len(book[1][part][4]) or not is_stand(book, part, paper[1]):
            raise NoPaper(part, at, "paper")
        least = at + 1


# The stand that the row at a place is looked at with, or None.
def stand_at(book, part, at, came, kept):
    if at not in kept:
        return came
    if came is not None and not stand_beneath(book[0], came, kept[at]):
        raise NoPaper(part, at, "unlike")
    return kept[at]


# The stand behind a row, or None where it does not lead there.
def stand_after(book, part, at, stand, kept):
    word = breaks(book, part, at, stand)
    if word is not None:
        raise NoPaper(part, at, word)
    behind = None
    for lead in outs(book, part, at, stand):
        if lead[0] == "next":
            behind = lead[2]
        elif lead[1] not in kept:
            raise NoPaper(part, at, "lacks")
        elif not stand_beneath(book[0], lead[2], kept[lead[1]]):
            raise NoPaper(part, at, "unlike")
    return behind


def check(book, part, papers):
    check_form(book, part, papers)
    kept = dict(papers)
    stand = entry(book, part)
    for at in range(len(book[1][part][4])):
        stand = stand_at(book, part, at, stand, kept)
        if stand is not None:
            stand = stand_after(book, part, at, stand, kept)
