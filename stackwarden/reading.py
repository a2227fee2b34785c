"""The plain reading of a program: its trees are gone through as they stand."""

from stackwarden.doors import check_door
from stackwarden.errors import Nought
from stackwarden.frames import MOST_FRAMES
from stackwarden.kinds import is_under
from stackwarden.plain import BY_NOUGHT, TOO_DEEP
from stackwarden.trees import heads_of
from stackwarden.words import reckoned


# A fault on its way to a try.
class Fault(Exception):
    def __init__(self, number):
        self.number = number


# A give on its way out of its part's lists.
class Gave(Exception):
    def __init__(self, value):
        self.value = value


# A budget of which none is left.
class Weary(Exception):
    pass


# Two variables may hold one record, so a put changes it in its place.
class Record:
    def __init__(self, make, fields):
        self.make = make
        self.fields = fields


# A call that goes on. A variable of a list that is done may stay known: nothing asks for it any more.
class Call:
    def __init__(self, depth, known):
        self.depth = depth
        self.known = known


class Reading:
    def __init__(self, program, budget):
        self.program = program
        self.said = []
        self.left = budget

    def end_at(self, part, inputs):
        try:
            return ("gave", self.given(part, inputs, 1))
        except Fault as fault:
            return ("fault", fault.number)
        except Weary:
            return ("weary",)

    # What a part gives when it is called, so many calls deep.
    def given(self, part, values, depth):
        told = self.program[1][part]
        names = [take[0] for take in told[0]]
        call = Call(depth, dict(zip(names, values)))
        try:
            self.do_all(call, told[2])
        except Gave as gave:
            return gave.value
        return self.value_of(call, told[3])

    def spend(self):
        if self.left <= 0:
            raise Weary()
        self.left = self.left - 1

    def value_of(self, call, tree):
        word = tree[0]
        if word == "num":
            return tree[1]
        if word == "var":
            return call.known[tree[1]]
        if word == "new":
            return Record(tree[1], self.values_of(call, tree[2]))
        if word == "get":
            return self.value_of(call, tree[3]).fields[tree[2]]
        if word == "call":
            return self.value_of_call(call, tree)
        if word == "either":
            chosen = tree[2] if self.value_of(call, tree[1]) != 0 else tree[3]
            return self.value_of(call, chosen)
        return self.value_of_two(call, tree)

    def values_of(self, call, trees):
        return [self.value_of(call, tree) for tree in trees]

    def value_of_call(self, call, tree):
        values = self.values_of(call, tree[2])
        self.spend()
        if call.depth >= MOST_FRAMES:
            raise Fault(TOO_DEEP)
        return self.given(tree[1], values, call.depth + 1)

    def value_of_two(self, call, tree):
        pair = self.values_of(call, tree[1:])
        try:
            return reckoned(tree[0], pair[0], pair[1])
        except Nought:
            raise Fault(BY_NOUGHT)

    def do_all(self, call, trees):
        for tree in trees:
            self.do_statement(call, tree)

    def do_statement(self, call, tree):
        word = tree[0]
        if word == "let":
            call.known[tree[1]] = self.value_of(call, tree[3])
        elif word == "set":
            call.known[tree[1]] = self.value_of(call, tree[2])
        elif word == "put":
            record = self.value_of(call, tree[3])
            value = self.value_of(call, tree[4])
            record.fields[tree[2]] = value
        elif word == "say":
            self.said.append(self.value_of(call, tree[1]))
        elif word == "toss":
            raise Fault(self.value_of(call, tree[1]))
        elif word == "drop":
            self.value_of(call, tree[1])
        elif word == "give":
            raise Gave(self.value_of(call, tree[1]))
        else:
            self.do_nesting(call, tree)

    # Of the statements that have lists in them.
    def do_nesting(self, call, tree):
        word = tree[0]
        if word == "if":
            self.do_all(call, tree[2] if self.value_of(call, tree[1]) != 0 else tree[3])
        elif word == "while":
            while self.value_of(call, tree[1]) != 0:
                self.do_all(call, tree[2])
                self.spend()
        elif word == "kin":
            self.do_kin(call, tree)
        else:
            self.do_try(call, tree)

    def do_kin(self, call, tree):
        record = self.value_of(call, tree[3])
        if is_under(self.program[0], record.make, tree[1]):
            call.known[tree[2]] = record
            self.do_all(call, tree[4])
        else:
            self.do_all(call, tree[5])

    def do_try(self, call, tree):
        try:
            self.do_all(call, tree[1])
            return
        except Fault as fault:
            call.known[tree[2]] = fault.number
        self.do_all(call, tree[3])


def plain_run(program, part, inputs, budget):
    check_door(heads_of(program), part, inputs)
    reading = Reading(program, budget)
    end = reading.end_at(part, inputs)
    return (end, reading.said, reading.left)
