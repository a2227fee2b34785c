"""Frames of a run: how one starts, what is taken off its stack, and which one catches a fault."""

from stackwarden.asks import catcher

MOST_FRAMES = 12


class Frame:
    def __init__(self, part, boxes):
        self.part = part
        self.at = 0
        self.boxes = boxes
        self.stack = []


# A frame of a part with values in its first boxes; the others hold what stands there for nothing.
def started(parts, part, values, nothing):
    return Frame(part, values + [nothing] * (parts[part][2] - len(values)))


# Takes so many values off a stack, and gives them, the deepest first.
def taken(stack, many):
    values = [stack.pop() for k in range(many)]
    values.reverse()
    return values


# Drops the newest frames that have no stretch with their place. The place at which the newest of the
# others goes on, or None where none is left.
def caught_at(parts, live):
    while len(live) > 0:
        at = catcher(parts[live[-1].part][5], live[-1].at)
        if at is not None:
            return at
        live.pop()
    return None


def frame_told(frame):
    return (frame.part, frame.at, tuple(frame.boxes), tuple(frame.stack))
