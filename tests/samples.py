"""Makes, kinds, rows and books that several tests ask about."""

import random

from stackwarden.flow import breaks, entry, outs
from stackwarden.rows import SIGNS, wants
from stackwarden.stands import stand_joined

ANY = ("any",)
NUMBER = ("number",)


def some_makes():
    """A new list each time, so that a test may change its own.

    0 - 1 - 3 - 5
      |   - 4
      - 2 - 6
      - 7
    """
    return [
        (None, []),
        (0, [NUMBER, ("whole", 5)]),
        (0, [("raw", 6, 1)]),
        (1, [ANY]),
        (1, []),
        (3, [("whole", 0), NUMBER, ("whole", 1)]),
        (2, [NUMBER]),
        (0, []),
    ]


# The makes that each make is under, reckoned by hand.
UNDER = {0: {0}, 1: {0, 1}, 2: {0, 2}, 3: {0, 1, 3}, 4: {0, 1, 4}, 5: {0, 1, 3, 5}, 6: {0, 2, 6}, 7: {0, 7}}
MASKS = {0: 0, 1: 3, 2: 1, 3: 7, 4: 3, 5: 63, 6: 3, 7: 0}


def all_kinds():
    kinds = [ANY, NUMBER]
    for c in range(8):
        kinds.append(("whole", c))
        kinds.extend(("raw", c, mask) for mask in range(MASKS[c] + 1))
    return kinds


def number(w):
    return ("number", w)


def record(n):
    return ("record", n)


# What a value, frames and a heap of the watched machine are with their tags forgotten.
def bare(value):
    return 0 if value is None else value[1]


def bare_frames(frames):
    return [(part, at, tuple(map(bare, boxes)), tuple(map(bare, stack))) for part, at, boxes, stack in frames]


def bare_heap(heap):
    return [(make, tuple(map(bare, fields))) for make, begun, mask, fields in heap]


def run_makes():
    """0 - 1 - 2, 0 - 3; make 2 has three fields, make 1 the first two of them."""
    return [(None, []), (0, [NUMBER, ANY]), (1, [("whole", 1)]), (0, [])]


def door(rows, takes=0, boxes=3, height=8, stretches=()):
    return ([NUMBER] * takes, NUMBER, boxes, height, list(rows), list(stretches))


# The numbers of the parts at which a run may be started.
def doors(book):
    return [part for part, told in enumerate(book[1]) if told[1] == NUMBER and set(told[0]) <= {NUMBER}]


END = [("push", 0), ("give",)]
# Turns boxes 0 to 7 about by one, box 7 to box 0.
TURN = [("load", 7)] + [row for b in range(6, -1, -1) for row in (("load", b), ("store", b + 1))] + [("store", 0)]


# A book of one part.
def lone(rows, takes=(), gives=NUMBER, boxes=2, height=4, stretches=(), makes=None):
    return (some_makes() if makes is None else makes,
            [(list(takes), gives, max(boxes, len(takes)), height, list(rows), list(stretches))])


# Rows that leave a begun record of make 1 with the fields 4 and 5, and of make 3.
PAIR = [("make", 1), ("push", 4), ("fill", 1, 0), ("push", 5), ("fill", 1, 1), ("begin", 1)]
LONE = [("make", 3), ("begin", 3)]
# The same of make 2, with 6, with nothing, and a record of make 1.
TRIPLE = [("make", 2), ("push", 6), ("fill", 2, 0), ("load", 2), ("fill", 2, 1)] + PAIR + [("fill", 2, 2), ("begin", 2)]
PAIR_MADE = (1, True, 3, (number(4), number(5)))
LONE_MADE = (3, True, 0, ())
TRIPLE_MADE = (2, True, 7, (number(6), None, record(1)))
BOXES = (number(7), number(-3), None)


# A row behind others in a door that takes 7 and -3, with the stack ahead of and behind it and what else changes.
def case(ahead, row, before, after, **more):
    told = {"ahead": ahead, "row": row, "before": before, "after": after, "boxes": BOXES, "heap": [], "said": [],
            "goes": len(ahead) + 1}
    told.update(more)
    for name in ("boxes", "heap", "said"):
        told.setdefault(name + "_after", told[name])
    return told


def case_book(told):
    rows = told["ahead"] + [told["row"], ("push", 0), ("give",), ("push", 1), ("give",)]
    return (run_makes(), [door(rows, takes=2)])


def reckoning(sign, one, other, left):
    return case([("push", 9), ("push", one), ("push", other)], (sign,),
                (number(9), number(one), number(other)), (number(9), number(left)))


CASES = [
    case([], ("push", 5), (), (number(5),)),
    case([("push", 1)], ("push", -2147483648), (number(1),), (number(1), number(-2147483648))),
    case([], ("load", 0), (), (number(7),)),
    case([("push", 1)], ("load", 1), (number(1),), (number(1), number(-3))),
    case([], ("load", 2), (), (None,)),
    case([("push", 1), ("push", 2)], ("store", 2), (number(1), number(2)), (number(1),),
         boxes_after=(number(7), number(-3), number(2))),
    case([("load", 2)], ("store", 0), (None,), (), boxes_after=(None, number(-3), None)),
    case([("make", 3)], ("store", 1), (record(0),), (), boxes_after=(number(7), record(0), None),
         heap=[(3, False, 0, ())]),
    case([("push", 1), ("push", 2)], ("dup",), (number(1), number(2)), (number(1), number(2), number(2))),
    case([("load", 2)], ("dup",), (None,), (None, None)),
    case([("push", 1), ("push", 2), ("push", 3)], ("swap",), (number(1), number(2), number(3)),
         (number(1), number(3), number(2))),
    case([("push", 1), ("push", 2)], ("drop",), (number(1), number(2)), (number(1),)),
    case([("load", 2)], ("drop",), (None,), ()),
    reckoning("add", 10, 3, 13),
    reckoning("add", 2147483647, 1, -2147483648),
    reckoning("sub", 10, 3, 7),
    reckoning("sub", 3, 10, -7),
    reckoning("mul", 10, -3, -30),
    reckoning("mul", 65536, 65536, 0),
    reckoning("div", 17, 5, 3),
    reckoning("div", -7, 2, -4),
    reckoning("div", -2147483648, -1, -2147483648),
    reckoning("rem", 17, 5, 2),
    reckoning("rem", 7, -2, -1),
    reckoning("less", 3, 10, 1),
    reckoning("less", 10, 3, 0),
    reckoning("less", 3, 3, 0),
    reckoning("same", 3, 3, 1),
    reckoning("same", 3, -3, 0),
    case([("push", 1)], ("jump", 4), (number(1),), (number(1),), goes=4),
    case([("push", 1)], ("jump", 2), (number(1),), (number(1),), goes=2),
    case([("push", 1), ("push", 0)], ("zero", 5), (number(1), number(0)), (number(1),), goes=5),
    case([("push", 0), ("push", 1)], ("zero", 5), (number(0), number(1)), (number(0),)),
    case([("push", -1)], ("zero", 4), (number(-1),), ()),
    case(PAIR, ("kin", 1, 9), (record(0),), (record(0),), heap=[PAIR_MADE], goes=9),
    case(PAIR, ("kin", 0, 9), (record(0),), (record(0),), heap=[PAIR_MADE], goes=9),
    case(PAIR, ("kin", 2, 9), (record(0),), (record(0),), heap=[PAIR_MADE]),
    case(PAIR, ("kin", 3, 9), (record(0),), (record(0),), heap=[PAIR_MADE]),
    case(TRIPLE, ("kin", 1, 16), (record(0),), (record(0),), heap=[TRIPLE_MADE, PAIR_MADE], goes=16),
    case(TRIPLE, ("kin", 3, 16), (record(0),), (record(0),), heap=[TRIPLE_MADE, PAIR_MADE]),
    case(PAIR + LONE, ("kin", 1, 11), (record(0), record(1)), (record(0), record(1)), heap=[PAIR_MADE, LONE_MADE]),
    case([], ("make", 1), (), (record(0),), heap_after=[(1, False, 0, (None, None))]),
    case([("make", 1)], ("make", 3), (record(0),), (record(0), record(1)), heap=[(1, False, 0, (None, None))],
         heap_after=[(1, False, 0, (None, None)), (3, False, 0, ())]),
    case([("push", 1)], ("make", 2), (number(1),), (number(1), record(0)), heap_after=[(2, False, 0, (None,) * 3)]),
    case([("make", 1), ("push", 4)], ("fill", 1, 0), (record(0), number(4)), (record(0),),
         heap=[(1, False, 0, (None, None))], heap_after=[(1, False, 1, (number(4), None))]),
    case([("make", 1), ("push", 4)], ("fill", 1, 1), (record(0), number(4)), (record(0),),
         heap=[(1, False, 0, (None, None))], heap_after=[(1, False, 2, (None, number(4)))]),
    case([("make", 1), ("load", 2)], ("fill", 1, 1), (record(0), None), (record(0),),
         heap=[(1, False, 0, (None, None))], heap_after=[(1, False, 2, (None, None))]),
    case([("make", 3), ("make", 1), ("dup",)], ("fill", 1, 1), (record(0), record(1), record(1)),
         (record(0), record(1)), heap=[(3, False, 0, ()), (1, False, 0, (None, None))],
         heap_after=[(3, False, 0, ()), (1, False, 2, (None, record(1)))]),
    case([("make", 1), ("push", 4), ("fill", 1, 0), ("push", 6)], ("fill", 1, 0), (record(0), number(6)),
         (record(0),), heap=[(1, False, 1, (number(4), None))], heap_after=[(1, False, 1, (number(6), None))]),
    case(PAIR[:-1], ("begin", 1), (record(0),), (record(0),), heap=[(1, False, 3, (number(4), number(5)))],
         heap_after=[PAIR_MADE]),
    case(LONE[:-1], ("begin", 3), (record(0),), (record(0),), heap=[(3, False, 0, ())], heap_after=[LONE_MADE]),
    case(PAIR, ("get", 1, 0), (record(0),), (number(4),), heap=[PAIR_MADE]),
    case(PAIR, ("get", 1, 1), (record(0),), (number(5),), heap=[PAIR_MADE]),
    case(TRIPLE, ("get", 1, 0), (record(0),), (number(6),), heap=[TRIPLE_MADE, PAIR_MADE]),
    case(TRIPLE, ("get", 2, 1), (record(0),), (None,), heap=[TRIPLE_MADE, PAIR_MADE]),
    case(TRIPLE, ("get", 2, 2), (record(0),), (record(1),), heap=[TRIPLE_MADE, PAIR_MADE]),
    case(LONE + PAIR + [("push", 8)], ("put", 1, 0), (record(0), record(1), number(8)), (record(0),),
         heap=[LONE_MADE, PAIR_MADE], heap_after=[LONE_MADE, (1, True, 3, (number(8), number(5)))]),
    case(PAIR + [("dup",)], ("put", 1, 1), (record(0), record(0)), (), heap=[PAIR_MADE],
         heap_after=[(1, True, 3, (number(4), record(0)))]),
    case(TRIPLE + [("push", 8)], ("put", 1, 1), (record(0), number(8)), (), heap=[TRIPLE_MADE, PAIR_MADE],
         heap_after=[(2, True, 7, (number(6), number(8), record(1))), PAIR_MADE]),
    case([("push", 1), ("push", 2)], ("say",), (number(1), number(2)), (number(1),), said_after=[2]),
    case([("push", 1), ("say",), ("load", 1)], ("say",), (number(-3),), (), said=[1], said_after=[1, -3]),
]


def whole(c):
    return ("whole", c)


def num(w=1):
    return ("num", w)


def var(x):
    return ("var", x)


def tree_makes():
    """0 - 1 - 2, 0 - 3; make 1 has a number and a whole 1, make 2 a whole 3 behind them, make 3 nothing."""
    return [(None, []), (0, [NUMBER, whole(1)]), (1, [whole(3)]), (0, [])]


def read_makes():
    """The same, but that the second field of make 1 is a whole 0: so a record of each can be made."""
    return [(None, []), (0, [NUMBER, whole(0)]), (1, [whole(3)]), (0, [])]


# Goes along every way of a part by itself, without joins. The stands that come to each place, and all
# that may be told in a refusal: pairs of a place and a word.
def explored(book, part, most=20000):
    rows = book[1][part][4]
    found = [set() for row in rows]
    found[0].add(entry(book, part))
    waiting = [(0, entry(book, part))]
    refusals = set()
    while waiting and most > 0:
        most -= 1
        at, stand = waiting.pop()
        word = breaks(book, part, at, stand)
        if word is not None:
            refusals.add((at, word))
            continue
        for how, to, other in outs(book, part, at, stand):
            if other not in found[to]:
                found[to].add(other)
                waiting.append((to, other))
    for at, some in enumerate(found):
        if len({len(stand[1]) for stand in some}) > 1:
            refusals.add((at, "meet"))
    return found, refusals, not waiting


class BookMaker:
    """Makes books by chance, always the same ones for the same seed; they are right, and often let by.

    How often a row is put where it breaks is told by `careless`, from 0 to 1.
    """

    def __init__(self, seed, careless=0.0):
        self.chance = random.Random(seed)
        self.careless = careless

    def made(self):
        self.make_makes()
        many = self.chance.randint(1, 4)
        self.heads = [self.head(number) for number in range(many)]
        parts = [self.part(number) for number in range(many)]
        return (self.makes, parts)

    def make_makes(self):
        chance = self.chance
        elders = [None] + [chance.randrange(c) for c in range(1, chance.randint(2, 6))]
        sizes = [0]
        for elder in elders[1:]:
            sizes.append(min(6, sizes[elder] + chance.randint(0, 2)))
        self.sizes = sizes
        self.makes = [(None, [])]
        for c in range(1, len(elders)):
            own = sizes[c] - sizes[elders[c]]
            self.makes.append((elders[c], [self.kind() for f in range(own)]))

    def kind(self):
        c = self.chance.randrange(len(self.sizes))
        mask = self.chance.randrange(1 << self.sizes[c])
        return self.chance.choice([ANY, NUMBER, NUMBER, ("whole", c), ("whole", c), ("raw", c, mask)])

    def head(self, number):
        chance = self.chance
        if number == 0 or chance.random() < 0.4:
            takes = [NUMBER] * chance.randint(0, 3)
            gives = NUMBER
        else:
            takes = [self.kind() for k in range(chance.randint(0, 3))]
            gives = self.kind()
        return (takes, gives, chance.randint(max(len(takes), 1), 5), chance.randint(3, 6))

    def part(self, number):
        chance = self.chance
        takes, gives, boxes, height = self.heads[number]
        self.rows = []
        self.stands = []
        self.open = []
        blank = [(list(head[0]), head[1], head[2], head[3], [], []) for head in self.heads]
        self.book = (self.makes, blank)
        self.stand = entry(self.book, number)
        for k in range(chance.randint(4, 30)):
            self.bind(0.3)
            self.add(number)
        self.finish(("give",) if gives == NUMBER else ("toss",))
        stretches = []
        ones = [at for at, stand in enumerate(self.stands) if stand is not None and len(stand[1]) == 1]
        for k in range(chance.choice([0, 0, 1, 2]) if ones else 0):
            first = chance.randrange(len(self.rows))
            behind = chance.randint(first + 1, min(len(self.rows), first + 6))
            stretches.append((first, behind, chance.choice(ones)))
        return (list(takes), gives, boxes, height, self.rows, stretches)

    # Binds some of the jumps that have no place yet to the place that comes next.
    def bind(self, how_often):
        for at, stand in list(self.open):
            fits = self.stand is None or len(self.stand[1]) == len(stand[1])
            if fits and self.chance.random() < how_often:
                self.open.remove((at, stand))
                self.rows[at] = self.rows[at][:-1] + (len(self.rows),)
                self.stand = stand if self.stand is None else stand_joined(self.makes, self.stand, stand)

    def add(self, number):
        at = len(self.rows)
        rows = self.book[1][number][4]
        for k in range(60):
            rows[:] = [None] * at + [self.row()]
            fits = self.stand is None or breaks(self.book, number, at, self.stand) is None
            if fits or self.chance.random() < self.careless:
                break
        self.emit(rows[at])
        if self.stand is None or not fits:
            return
        leads = {how: stand for how, to, stand in outs(self.book, number, at, self.stand)}
        if "jump" in leads:
            self.aim(at, leads["jump"])
        self.stand = leads.get("next")

    # Lets a jump lead back, or leaves it open.
    def aim(self, at, stand):
        back = [to for to, other in enumerate(self.stands) if other is not None and len(other[1]) == len(stand[1])]
        if back and self.chance.random() < 0.4:
            self.rows[at] = self.rows[at][:-1] + (self.chance.choice(back),)
        else:
            self.open.append((at, stand))

    def row(self):
        chance = self.chance
        sign = chance.choice(SIGNS + ("load", "store", "fill", "fill", "begin", "begin", "make", "get", "put", "call",
                                      "push", "div", "toss"))
        if sign in ("give", "toss", "jump") and chance.random() < 0.6:
            sign = "push"
        boxes = 1 if self.stand is None else len(self.stand[0])
        numbers = {"word": chance.choice([0, 0, 1, 2, 3, -1, 7]), "box": chance.randrange(boxes),
                   "make": chance.randrange(len(self.makes)), "place": 0, "part": chance.randrange(len(self.heads))}
        if sign in ("fill", "get", "put"):
            rich = [c for c in range(len(self.makes)) if self.sizes[c] > 0]
            if not rich:
                return ("push", 1)
            numbers["make"] = chance.choice(rich)
            numbers["field"] = chance.randrange(self.sizes[numbers["make"]])
        return (sign,) + tuple(numbers[want] for want in wants(sign))

    # Drops what stands there, binding the jumps that are open at each height, and ends with a number.
    def finish(self, last):
        if self.stand is not None:
            self.open.append((len(self.rows), self.stand))
            self.emit(("jump", 0))
        for height in range(8, -1, -1):
            self.stand = None
            for at, stand in list(self.open):
                if len(stand[1]) == height:
                    self.open.remove((at, stand))
                    self.rows[at] = self.rows[at][:-1] + (len(self.rows),)
                    self.stand = stand if self.stand is None else stand_joined(self.makes, self.stand, stand)
            if self.stand is not None and height > 0:
                stand = self.stand
                self.emit(("drop",))
                self.open.append((len(self.rows), (stand[0], stand[1][:-1])))
                self.emit(("jump", 0))
        self.emit(("push", self.chance.randrange(5)))
        self.emit(last)

    def emit(self, row):
        self.rows.append(row)
        self.stands.append(self.stand)


class ProgramMaker:
    """Makes programs by chance, always the same ones for the same seed; they keep the rules, and are mostly small."""

    def __init__(self, seed):
        self.chance = random.Random(seed)

    def made(self):
        chance = self.chance
        self.make_makes()
        self.heads = [self.head(number) for number in range(chance.randint(1, 4))]
        return (self.makes, [self.part(number) for number in range(len(self.heads))])

    # Each field can be made of makes ahead of its own, so that a record of every make can be made.
    def make_makes(self):
        chance = self.chance
        self.makes = [(None, [])]
        self.fields = [[]]
        for c in range(1, chance.randint(2, 6)):
            elder = chance.randrange(c)
            room = min(2, 6 - len(self.fields[elder]))
            kinds = [chance.choice([NUMBER, ("whole", 0), ("whole", chance.randrange(c))])
                     for f in range(chance.randint(0, room))]
            self.makes.append((elder, kinds))
            self.fields.append(self.fields[elder] + kinds)

    def is_under(self, c, other):
        return c is not None and (c == other or self.is_under(self.makes[c][0], other))

    def fits(self, kind, other):
        return kind == other or kind[0] == other[0] == "whole" and self.is_under(kind[1], other[1])

    def kind(self):
        return self.chance.choice([NUMBER, ("whole", self.chance.randrange(len(self.makes)))])

    def head(self, number):
        chance = self.chance
        is_door = number == 0 or chance.random() < 0.4
        kinds = [NUMBER if is_door else self.kind() for k in range(chance.randint(0, 2))]
        return ([("a" + "bcd"[k], kind) for k, kind in enumerate(kinds)], NUMBER if is_door else self.kind())

    def part(self, number):
        takes, gives = self.heads[number]
        self.gives = gives
        self.many = 0
        known = dict(takes)
        body = self.statements(known, self.chance.choice([1, 2, 3]), self.chance.randint(0, 5))
        return (list(takes), gives, body, self.value(known, gives, self.chance.choice([1, 2, 3])))

    # Adds to what is known the list's own variables.
    def statements(self, known, depth, many):
        return [self.statement(known, depth) for k in range(many)]

    def inner(self, known, depth):
        return self.statements(dict(known), depth - 1, self.chance.choice([0, 1, 1, 2]))

    # Names that are gone may come again.
    def new_name(self, known):
        self.many += 1
        free = [name for name in ("x", "y", "z", "abcdefgh") if name not in known]
        return self.chance.choice(free) if free else "v" + "".join("abcdefghij"[int(sign)] for sign in str(self.many))

    def statement(self, known, depth):
        chance = self.chance
        word = chance.choice(["let", "let", "set", "set", "put", "say", "say", "drop", "give", "toss", "if", "while",
                              "while", "kin", "try", "try"])
        if word in ("give", "toss") and chance.random() < 0.6:
            word = "say"
        if depth <= 0 and word in ("if", "while", "kin", "try"):
            word = "set"
        if word in ("if", "while", "kin", "try"):
            return self.nested(known, depth, word)
        depth = chance.choice([1, 2, 2, 3])
        if word == "set" and known:
            name = chance.choice(sorted(known))
            return ("set", name, self.value(known, known[name], depth))
        rich = [c for c in range(len(self.makes)) if self.fields[c]]
        if word == "put" and rich:
            c = chance.choice(rich)
            f = chance.randrange(len(self.fields[c]))
            return ("put", c, f, self.value(known, ("whole", c), depth), self.value(known, self.fields[c][f], depth))
        if word in ("say", "toss", "put"):
            return ("toss" if word == "toss" else "say", self.value(known, NUMBER, depth))
        if word == "drop":
            return ("drop", self.value(known, self.kind(), depth))
        if word == "give":
            return ("give", self.value(known, self.gives, depth))
        kind = self.kind()
        tree = self.value(known, kind, depth)
        name = self.new_name(known)
        known[name] = kind
        return ("let", name, kind, tree)

    def nested(self, known, depth, word):
        chance = self.chance
        if word == "if":
            return ("if", self.value(known, NUMBER, 2), self.inner(known, depth), self.inner(known, depth))
        if word == "while":
            numbers = sorted(name for name in known if known[name] == NUMBER)
            if not numbers or chance.random() < 0.2:
                return ("while", self.value(known, NUMBER, 2), self.inner(known, depth))
            # Comes to an end if what stands ahead of it and in it lets it.
            name = chance.choice(numbers)
            down = ("set", name, ("sub", ("var", name), ("num", 1)))
            return ("while", ("less", ("num", 0), ("var", name)), self.inner(known, depth) + [down])
        if word == "kin":
            c = chance.randrange(len(self.makes))
            name = self.new_name(known)
            more = dict(known)
            more[name] = ("whole", c)
            asked = self.value(known, ("whole", 0), 2)
            return ("kin", c, name, asked, self.inner(more, depth), self.inner(known, depth))
        name = self.new_name(known)
        more = dict(known)
        more[name] = NUMBER
        first = self.inner(known, depth)
        if chance.random() < 0.5:
            first.append(("toss", self.value(known, NUMBER, 1)))
        return ("try", first, name, self.inner(more, depth))

    # An expression of a kind that is beneath the one told.
    def value(self, known, kind, depth):
        chance = self.chance
        fitting = [name for name in sorted(known) if self.fits(known[name], kind)]
        if fitting and (depth <= 1 or chance.random() < 0.35):
            return ("var", chance.choice(fitting))
        if depth <= 1:
            return self.least(kind)
        way = chance.choice(["own", "own", "own", "get", "call", "either"])
        if way == "get":
            spots = [(c, f) for c in range(len(self.makes)) for f, other in enumerate(self.fields[c])
                     if self.fits(other, kind)]
            if spots:
                c, f = chance.choice(spots)
                return ("get", c, f, self.value(known, ("whole", c), depth - 1))
        if way == "call":
            fitting = [number for number, head in enumerate(self.heads) if self.fits(head[1], kind)]
            if fitting:
                number = chance.choice(fitting)
                return ("call", number, [self.value(known, other, depth - 1) for name, other in self.heads[number][0]])
        if way == "either":
            return ("either", self.value(known, NUMBER, depth - 1), self.value(known, kind, depth - 1),
                    self.value(known, kind, depth - 1))
        if kind == NUMBER:
            return (chance.choice(["add", "sub", "mul", "div", "rem", "less", "same"]),
                    self.value(known, NUMBER, depth - 1), self.value(known, NUMBER, depth - 1))
        c = chance.choice([c for c in range(len(self.makes)) if self.is_under(c, kind[1])])
        return ("new", c, [self.value(known, other, depth - 1) for other in self.fields[c]])

    # One that needs no variable.
    def least(self, kind):
        if kind == NUMBER:
            return ("num", self.chance.choice([0, 0, 1, 1, 2, 3, -1, 7]))
        return ("new", kind[1], [self.least(other) for other in self.fields[kind[1]]])
