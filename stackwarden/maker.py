"""The maker: makes code, and papers for it, of a program."""

from stackwarden.books import MOST_BOXES, MOST_HEIGHT, MOST_STRETCHES
from stackwarden.errors import TooLarge
from stackwarden.rows import MOST_ROWS
from stackwarden.stands import stand_joined
from stackwarden.trees import check_program, kind_of, kinds_taken, with_new


# Variables go in the turn opposite to that in which they came, so the least number that none has is always
# how many there are: a variable's box is its place among all that are known.
def box_of(known, name):
    return list(known).index(name)


# The code of one part. What is known are the variables that are there, with the kinds as which they are told,
# and what stands under are the kinds of the expressions that are unfinished, the deepest first.
class Making:
    def __init__(self, program, part):
        self.program = program
        self.part = part
        self.rows = []
        self.stretches = []
        self.notes = []
        self.boxes = len(program[1][part][0])
        self.height = 1

    def put_part(self):
        told = self.program[1][self.part]
        known = self.put_list(dict(told[0]), told[2])
        self.put_value(known, (), told[3])
        self.rows.append(("give",))

    def kind(self, known, tree):
        return kind_of(self.program, self.part, known, tree)

    # The place that comes next, for which a paper is noted.
    def here(self, known, stack):
        kinds = tuple([known[name] for name in known])
        self.notes.append((len(self.rows), kinds, stack))
        return len(self.rows)

    # The place of a row that is only put there when it is known where it leads.
    def kept_free(self):
        self.rows.append(None)
        return len(self.rows) - 1

    def put_value(self, known, under, tree):
        word = tree[0]
        self.height = max(self.height, len(under) + 1)
        if word == "num":
            self.rows.append(("push", tree[1]))
        elif word == "var":
            self.rows.append(("load", box_of(known, tree[1])))
        elif word == "new":
            self.put_new(known, under, tree)
        elif word == "get":
            self.put_value(known, under, tree[3])
            self.rows.append(("get", tree[1], tree[2]))
        elif word == "call":
            self.put_values(known, under, tree[2])
            self.rows.append(("call", tree[1]))
        elif word == "either":
            self.put_either(known, under, tree)
        else:
            self.put_values(known, under, tree[1:])
            self.rows.append((word,))

    def put_values(self, known, under, trees):
        for tree in trees:
            self.put_value(known, under, tree)
            under = under + (self.kind(known, tree),)

    def put_new(self, known, under, tree):
        c = tree[1]
        self.rows.append(("make", c))
        for f, inner in enumerate(tree[2]):
            self.put_value(known, under + (("raw", c, (1 << f) - 1),), inner)
            self.rows.append(("fill", c, f))
        self.rows.append(("begin", c))

    def put_either(self, known, under, tree):
        self.put_value(known, under, tree[1])
        asking = self.kept_free()
        self.put_value(known, under, tree[2])
        leaving = self.kept_free()
        self.rows[asking] = ("zero", self.here(known, under))
        self.put_value(known, under, tree[3])
        self.rows[leaving] = ("jump", self.here(known, under + (self.kind(known, tree),)))

    # Puts what stands on the stack into a new variable; what is known from there on.
    def put_store(self, known, name, kind):
        more = with_new(self.part, known, name, kind)
        self.rows.append(("store", box_of(more, name)))
        self.boxes = max(self.boxes, len(more))
        return more

    # What is known behind a list, at whose end its own variables are still there.
    def put_list(self, known, trees):
        for tree in trees:
            if tree[0] == "let":
                self.put_value(known, (), tree[3])
                known = self.put_store(known, tree[1], tree[2])
            else:
                self.put_statement(known, tree)
        return known

    # Of all statements but let.
    def put_statement(self, known, tree):
        word = tree[0]
        if word == "set":
            self.put_value(known, (), tree[2])
            self.rows.append(("store", box_of(known, tree[1])))
        elif word == "put":
            self.put_values(known, (), tree[3:])
            self.rows.append(("put", tree[1], tree[2]))
        elif word == "if":
            self.put_if(known, tree)
        elif word == "while":
            self.put_while(known, tree)
        elif word == "kin":
            self.put_kin(known, tree)
        elif word == "try":
            self.put_try(known, tree)
        else:
            self.put_value(known, (), tree[1])
            self.rows.append((word,))

    def put_if(self, known, tree):
        self.put_value(known, (), tree[1])
        asking = self.kept_free()
        self.put_list(known, tree[2])
        leaving = self.kept_free()
        self.rows[asking] = ("zero", self.here(known, ()))
        self.put_list(known, tree[3])
        self.rows[leaving] = ("jump", self.here(known, ()))

    def put_while(self, known, tree):
        top = self.here(known, ())
        self.put_value(known, (), tree[1])
        asking = self.kept_free()
        self.put_list(known, tree[2])
        self.rows.append(("jump", top))
        self.rows[asking] = ("zero", self.here(known, ()))

    def put_kin(self, known, tree):
        kind = ("whole", tree[1])
        self.put_value(known, (), tree[3])
        asking = self.kept_free()
        self.rows.append(("drop",))
        self.put_list(known, tree[5])
        leaving = self.kept_free()
        self.rows[asking] = ("kin", tree[1], self.here(known, (kind,)))
        self.put_list(self.put_store(known, tree[2], kind), tree[4])
        self.rows[leaving] = ("jump", self.here(known, ()))

    def put_try(self, known, tree):
        kind = ("number",)
        first = len(self.rows)
        self.put_list(known, tree[1])
        leaving = self.kept_free()
        caught = self.here(known, (kind,))
        self.stretches.append((first, caught, caught))
        self.put_list(self.put_store(known, tree[2], kind), tree[3])
        self.rows[leaving] = ("jump", self.here(known, ()))


def is_too_large(making):
    if making.boxes > MOST_BOXES or making.height > MOST_HEIGHT:
        return True
    return len(making.rows) > MOST_ROWS or len(making.stretches) > MOST_STRETCHES


def making_of(program, part):
    making = Making(program, part)
    making.put_part()
    if is_too_large(making):
        raise TooLarge(part)
    return making


def part_of(making):
    told = making.program[1][making.part]
    return (kinds_taken(told), told[1], making.boxes, making.height, making.rows, making.stretches)


def papers_told(making):
    makes = making.program[0]
    found = {}
    for note in making.notes:
        others = (("any",),) * (making.boxes - len(note[1]))
        stand = (note[1] + others, note[2])
        found[note[0]] = stand_joined(makes, found.get(note[0], stand), stand)
    return [(at, found[at]) for at in sorted(found)]


def made(program):
    check_program(program)
    makings = [making_of(program, part) for part in range(len(program[1]))]
    makes = [(make[0], list(make[1])) for make in program[0]]
    book = (makes, [part_of(making) for making in makings])
    return (book, [papers_told(making) for making in makings])
