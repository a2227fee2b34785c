"""Ways: why a part is not let by, told row by row and gone along without joins."""

from stackwarden.flow import breaks, entry, outs


# All that was come to, step by step, the shortest ways first. A step is a tuple (how, at, stand, ahead),
# ahead being the number of the step ahead of it, None for the start.
class Walk:
    def __init__(self, stand):
        self.steps = []
        self.firsts = {}
        self.seen = {}
        self.come("start", 0, stand, None)

    # A row leads each kind on by itself, whatever stands beside it. So a stand of which each kind was seen
    # at its spot of the place before could come to nothing new, and is left out: thereby the steps stay few,
    # and since a kind changes on its way only by fills, at most six times, no way has more steps than
    # 100 to where it was put, and behind it 7 (its masks) times 100 (places) times 16 (spots).
    def come(self, how, at, stand, ahead):
        if self.is_new(at, stand):
            self.firsts.setdefault(at, len(self.steps))
            self.steps.append((how, at, stand, ahead))

    # Notes what is seen, and tells whether anything of it was not seen before.
    def is_new(self, at, stand):
        old = len(self.seen)
        self.seen[(at,)] = True
        for spot, kind in enumerate(stand[0] + stand[1]):
            self.seen[(at, spot, kind)] = True
        return len(self.seen) > old

    # The number of a step to a place with another height, or None.
    def unlike(self, at, stand):
        first = self.firsts.get(at)
        if first is None or len(self.steps[first][2][1]) == len(stand[1]):
            return None
        return first

    def way_to(self, number):
        way = []
        while number is not None:
            step = self.steps[number]
            way.append((step[0], step[1]))
            number = step[3]
        way.reverse()
        return way


def why(book, part):
    walk = Walk(entry(book, part))
    number = 0
    while number < len(walk.steps):
        at = walk.steps[number][1]
        stand = walk.steps[number][2]
        word = breaks(book, part, at, stand)
        if word is not None:
            return (word, walk.way_to(number), None)
        for lead in outs(book, part, at, stand):
            other = walk.unlike(lead[1], lead[2])
            if other is not None:
                return ("meet", walk.way_to(other), walk.way_to(number) + [(lead[0], lead[1])])
            walk.come(lead[0], lead[1], lead[2], number)
        number = number + 1
    return None
