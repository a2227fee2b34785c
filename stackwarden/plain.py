"""The plain machine: all is whole numbers, and nothing is looked at."""

from stackwarden.books import copied
from stackwarden.doors import check_door
from stackwarden.errors import Nought
from stackwarden.frames import MOST_FRAMES, caught_at, frame_told, started, taken
from stackwarden.kinds import fields_of, is_under
from stackwarden.rows import GOING, OF_RECORDS, RECKONING
from stackwarden.spots import replaced
from stackwarden.words import reckoned

# The numbers of the faults that no row tosses.
BY_NOUGHT = 1
TOO_DEEP = 2


# How values and records are kept, and whether a row is looked at, is told by the methods from `nothing`
# on, and only by them: so a machine that keeps them otherwise still does every row in the same way.
class Plain:
    def __init__(self, book, part, inputs, budget):
        check_door(book[1], part, inputs)
        self.book = copied(book)
        self.live = []
        self.records = []
        self.said = []
        self.left = budget
        self.end = None
        self.add_frame(part, [self.tagged("number", word) for word in inputs])

    def told(self):
        return (self.end, list(self.said), self.left)

    def frames(self):
        return [frame_told(frame) for frame in self.live]

    def heap(self):
        return list(self.records)

    def step(self):
        if self.end is not None:
            return
        frame = self.live[-1]
        row = self.book[1][frame.part][4][frame.at]
        word = self.looked(frame, row)
        if word is None:
            self.do_row(frame, row)
        else:
            self.end = ("look", frame.part, frame.at, word)

    def do_row(self, frame, row):
        sign = row[0]
        if sign in GOING:
            self.do_going(frame, row)
        elif sign in RECKONING:
            self.do_reckoning(frame, sign)
        elif sign == "call":
            self.do_call(frame, row[1])
        elif sign == "give":
            self.do_give(frame)
        elif sign == "toss":
            self.fault(self.bare(frame.stack.pop()))
        elif sign in OF_RECORDS:
            self.do_of_records(frame.stack, row)
            frame.at = frame.at + 1
        else:
            self.do_straight(frame, row)
            frame.at = frame.at + 1

    def do_straight(self, frame, row):
        sign = row[0]
        stack = frame.stack
        if sign == "push":
            stack.append(self.tagged("number", row[1]))
        elif sign == "load":
            stack.append(frame.boxes[row[1]])
        elif sign == "store":
            frame.boxes[row[1]] = stack.pop()
        elif sign == "dup":
            stack.append(stack[-1])
        elif sign == "swap":
            pair = taken(stack, 2)
            stack.extend([pair[1], pair[0]])
        elif sign == "drop":
            stack.pop()
        else:
            self.said.append(self.bare(stack.pop()))

    def do_of_records(self, stack, row):
        sign = row[0]
        if sign == "make":
            stack.append(self.tagged("record", len(self.records)))
            self.records.append(self.new_record(row[1]))
        elif sign == "begin":
            number = self.bare(stack[-1])
            self.records[number] = self.as_begun(self.records[number])
        elif sign == "get":
            record = self.records[self.bare(stack.pop())]
            stack.append(record[-1][row[2]])
        else:
            value = stack.pop()
            number = self.bare(stack[-1])
            self.records[number] = self.with_field(self.records[number], row[2], value)
            if sign == "put":
                stack.pop()

    def do_reckoning(self, frame, sign):
        pair = [self.bare(value) for value in taken(frame.stack, 2)]
        try:
            word = reckoned(sign, pair[0], pair[1])
        except Nought:
            self.fault(BY_NOUGHT)
            return
        frame.stack.append(self.tagged("number", word))
        frame.at = frame.at + 1

    def do_going(self, frame, row):
        if self.goes(frame.stack, row):
            self.go_on(frame, row[-1])
        else:
            frame.at = frame.at + 1

    def goes(self, stack, row):
        if row[0] == "zero":
            return self.bare(stack.pop()) == 0
        if row[0] == "kin":
            record = self.records[self.bare(stack[-1])]
            return is_under(self.book[0], record[0], row[1])
        return True

    def go_on(self, frame, at):
        if at > frame.at or self.spend():
            frame.at = at

    # Takes one of the budget and tells whether there was one; where there was none the run ends.
    def spend(self):
        if self.left <= 0:
            self.end = ("weary",)
            return False
        self.left = self.left - 1
        return True

    def add_frame(self, part, values):
        self.live.append(started(self.book[1], part, values, self.nothing()))

    def do_call(self, frame, part):
        if not self.spend():
            return
        if len(self.live) >= MOST_FRAMES:
            self.fault(TOO_DEEP)
            return
        self.add_frame(part, taken(frame.stack, len(self.book[1][part][0])))

    def do_give(self, frame):
        value = frame.stack.pop()
        self.live.pop()
        if len(self.live) == 0:
            self.end = ("gave", self.bare(value))
            return
        beneath = self.live[-1]
        beneath.stack.append(value)
        beneath.at = beneath.at + 1

    def fault(self, number):
        at = caught_at(self.book[1], self.live)
        if at is None:
            self.end = ("fault", number)
            return
        frame = self.live[-1]
        frame.stack = [self.tagged("number", number)]
        self.go_on(frame, at)

    # What a box holds that nothing was put into.
    def nothing(self):
        return 0

    # The value that a number is, or the record of a number; the tag is "number" or "record".
    def tagged(self, tag, number):
        return number

    def bare(self, value):
        return value

    # A record's make stands first in it, and its fields last.
    def new_record(self, c):
        return (c, (0,) * len(fields_of(self.book[0], c)))

    def with_field(self, record, f, value):
        return (record[0], replaced(record[1], f, value))

    def as_begun(self, record):
        return record

    # None, or the word by which a row is not to be done.
    def looked(self, frame, row):
        return None
