"""Programs of the small language: the kinds of their expressions, and whether they keep its rules."""

from stackwarden.books import makes_are_right
from stackwarden.errors import NoTree
from stackwarden.kinds import beneath, fields_of, is_kind, joined
from stackwarden.words import is_word

MOST_LETTERS = 8


def is_name(text):
    return 1 <= len(text) <= MOST_LETTERS and all(["a" <= letter <= "z" for letter in text])


# The kinds that a program may tell of fields, takes, gives and variables.
def is_told_kind(makes, kind):
    return kind[0] in ("number", "whole") and is_kind(makes, kind)


def all_told(makes, kinds):
    return all([is_told_kind(makes, kind) for kind in kinds])


def kinds_taken(part):
    return [take[1] for take in part[0]]


# What a part takes and gives, as books tell it.
def heads_of(program):
    return [(kinds_taken(part), part[1]) for part in program[1]]


def head_is_right(makes, part):
    names = [take[0] for take in part[0]]
    if len(set(names)) < len(names) or not all([is_name(name) for name in names]):
        return False
    return all_told(makes, kinds_taken(part) + [part[1]])


def must(part, right):
    if not right:
        raise NoTree(part)


def must_have_make(program, part, c):
    must(part, 0 <= c < len(program[0]))


# The kind of a field, which must be there.
def field_kind(program, part, c, f):
    must_have_make(program, part, c)
    fields = fields_of(program[0], c)
    must(part, 0 <= f < len(fields))
    return fields[f]


# The kind of an expression, where the variables that are there, with their kinds, are known.
def kind_of(program, part, known, tree):
    word = tree[0]
    if word == "num":
        must(part, is_word(tree[1]))
        return ("number",)
    if word == "var":
        must(part, tree[1] in known)
        return known[tree[1]]
    if word == "new":
        must_have_make(program, part, tree[1])
        must_be_all(program, part, known, tree[2], fields_of(program[0], tree[1]))
        return ("whole", tree[1])
    if word == "get":
        told = field_kind(program, part, tree[1], tree[2])
        must_be(program, part, known, tree[3], ("whole", tree[1]))
        return told
    if word == "call":
        must(part, 0 <= tree[1] < len(program[1]))
        must_be_all(program, part, known, tree[2], kinds_taken(program[1][tree[1]]))
        return program[1][tree[1]][1]
    if word == "either":
        return kind_of_either(program, part, known, tree)
    must_be_all(program, part, known, tree[1:], [("number",), ("number",)])
    return ("number",)


def kind_of_either(program, part, known, tree):
    must_be(program, part, known, tree[1], ("number",))
    one = kind_of(program, part, known, tree[2])
    other = kind_of(program, part, known, tree[3])
    both = joined(program[0], one, other)
    must(part, both != ("any",))
    return both


def must_be(program, part, known, tree, kind):
    must(part, beneath(program[0], kind_of(program, part, known, tree), kind))


def must_be_all(program, part, known, trees, kinds):
    must(part, len(trees) == len(kinds))
    for tree, kind in zip(trees, kinds):
        must_be(program, part, known, tree, kind)


# What is known where a new variable is there, too.
def with_new(part, known, name, kind):
    must(part, is_name(name) and name not in known)
    more = dict(known)
    more[name] = kind
    return more


# What is known behind a list, at whose end its own variables are still there.
def known_behind(program, part, known, trees):
    for tree in trees:
        check_statement(program, part, known, tree)
        if tree[0] == "let":
            known = with_new(part, known, tree[1], tree[2])
    return known


def check_statement(program, part, known, tree):
    word = tree[0]
    if word == "let":
        must(part, is_told_kind(program[0], tree[2]))
        must_be(program, part, known, tree[3], tree[2])
    elif word == "set":
        must(part, tree[1] in known)
        must_be(program, part, known, tree[2], known[tree[1]])
    elif word == "put":
        told = field_kind(program, part, tree[1], tree[2])
        must_be_all(program, part, known, tree[3:], [("whole", tree[1]), told])
    elif word in ("say", "toss"):
        must_be(program, part, known, tree[1], ("number",))
    elif word == "drop":
        kind_of(program, part, known, tree[1])
    elif word == "give":
        must_be(program, part, known, tree[1], program[1][part][1])
    else:
        check_nesting(program, part, known, tree)


# Of the statements that have lists in them.
def check_nesting(program, part, known, tree):
    word = tree[0]
    if word == "kin":
        must_have_make(program, part, tree[1])
        must_be(program, part, known, tree[3], ("whole", 0))
        known_behind(program, part, with_new(part, known, tree[2], ("whole", tree[1])), tree[4])
        known_behind(program, part, known, tree[5])
    elif word == "try":
        known_behind(program, part, known, tree[1])
        known_behind(program, part, with_new(part, known, tree[2], ("number",)), tree[3])
    else:
        must_be(program, part, known, tree[1], ("number",))
        for inner in tree[2:]:
            known_behind(program, part, known, inner)


def check_body(program, part):
    told = program[1][part]
    known = known_behind(program, part, dict(told[0]), told[2])
    must_be(program, part, known, told[3], told[1])


def check_program(program):
    makes = program[0]
    must(None, makes_are_right(makes) and all([all_told(makes, make[1]) for make in makes]))
    for part, told in enumerate(program[1]):
        must(part, head_is_right(makes, told))
    for part in range(len(program[1])):
        check_body(program, part)
