"""The promise of the whole for what is made: it is let by, and tells just what the plain reading tells."""

import unittest

from samples import NUMBER, ProgramMaker, bare_frames, bare_heap, doors, num, read_makes, var, whole
from stackwarden.bits import bytes_of, rows_of
from stackwarden.books import check_book
from stackwarden.errors import NoDoor, TooLarge
from stackwarden.maker import made
from stackwarden.papers import check, papers_of
from stackwarden.plain import Plain
from stackwarden.reading import plain_run
from stackwarden.runs import run, run_watched
from stackwarden.stands import stand_beneath
from stackwarden.texts import read, shown
from stackwarden.trees import check_program
from stackwarden.values import has_kind
from stackwarden.warden import warded
from stackwarden.watched import Watched
from stackwarden.ways import why

INPUTS = ((0, 0, 0), (1, 2, 3), (5, -1, 0), (-7, 2147483647, 1))
MOST = 300


def one_less(x):
    return ("sub", var(x), num(1))


# Makes a list of the numbers from n down to 1, walks it, says each, and gives their sum.
def list_program():
    makes = [(None, []), (0, []), (0, [NUMBER, whole(0)])]
    body = [("let", "all", whole(0), ("new", 1, [])), ("let", "sum", NUMBER, num(0)), ("let", "on", NUMBER, num(1)),
            ("while", ("less", num(0), var("n")), [("set", "all", ("new", 2, [var("n"), var("all")])),
                                                   ("set", "n", one_less("n"))]),
            ("while", var("on"), [("kin", 2, "x", var("all"), [
                ("say", ("get", 2, 0, var("x"))), ("set", "sum", ("add", var("sum"), ("get", 2, 0, var("x")))),
                ("set", "all", ("get", 2, 1, var("x")))], [("set", "on", num(0))])])]
    return (makes, [([("n", NUMBER)], NUMBER, body, var("sum"))])


# Calls itself n times, and tosses what it took from there on up; each call of an even number tries.
def deep_program():
    call = ("call", 0, [one_less("n"), var("m")])
    body = [("if", ("less", var("n"), num(1)), [("toss", var("m"))], []),
            ("if", ("rem", var("n"), num(2)), [("give", ("add", num(1), call))], []),
            ("try", [("give", ("add", num(10), call))], "x",
             [("say", var("x")), ("if", ("less", var("n"), num(4)), [("toss", one_less("x"))], [])])]
    return (read_makes(), [([("n", NUMBER), ("m", NUMBER)], NUMBER, body, var("n"))])


# As often as Fibonacci's numbers are told.
def often_program():
    body = [("if", ("less", var("n"), num(2)), [("give", var("n"))], [])]
    return (read_makes(), [([("n", NUMBER)], NUMBER, body,
                            ("add", ("call", 0, [one_less("n")]), ("call", 0, [("sub", var("n"), num(2))])))])


# Two variables, a field and a part hold one record.
def shared_program():
    bump = ([("r", whole(1)), ("k", NUMBER)], whole(1),
            [("put", 1, 0, var("r"), ("add", ("get", 1, 0, var("r")), var("k"))),
             ("if", ("less", num(9), ("get", 1, 0, var("r"))), [("toss", ("get", 1, 0, var("r")))], [])], var("r"))
    body = [("let", "r", whole(1), ("new", 1, [var("n"), ("new", 3, [])])), ("let", "s", whole(0), var("r")),
            ("let", "t", whole(2), ("new", 2, [num(1), var("r"), ("new", 3, [])])), ("put", 1, 1, var("r"), var("t")),
            ("try", [("drop", ("call", 1, [var("r"), num(4)])), ("say", ("get", 1, 0, var("r"))),
                     ("kin", 1, "x", ("get", 1, 1, var("t")), [("drop", ("call", 1, [var("x"), num(3)]))], [])],
             "f", [("say", var("f"))]),
            ("kin", 1, "x", var("s"), [("say", ("get", 1, 0, var("x"))),
                                       ("put", 1, 0, var("x"), ("div", num(100), ("get", 1, 0, var("x"))))], [])]
    return (read_makes(), [([("n", NUMBER)], NUMBER, body, ("get", 1, 0, var("r"))), bump])


# Eithers within all that stands unfinished.
def either_program():
    either = ("either", var("n"), ("either", var("m"), num(1), num(2)), num(3))
    inner = ("either", var("n"), ("new", 1, [either, ("new", 3, [])]), ("new", 3, []))
    record = ("new", 2, [either, inner, ("new", 3, [])])
    body = [("let", "r", whole(1), ("either", var("m"), record, ("new", 1, [either, ("new", 0, [])]))),
            ("put", 1, 0, ("either", var("n"), var("r"), var("r")), ("add", num(10), either)),
            ("kin", 2, "x", var("r"), [("say", ("get", 2, 0, var("x")))],
             [("say", ("mul", num(2), ("get", 1, 0, var("r"))))])]
    return (read_makes(), [([("n", NUMBER), ("m", NUMBER)], NUMBER, body, ("sub", ("get", 1, 0, var("r")), either))])


def by_hand():
    return [list_program(), deep_program(), often_program(), shared_program(), either_program()]


def by_chance(seeds):
    for seed in seeds:
        program = ProgramMaker(seed).made()
        try:
            yield seed, program, made(program)
        except TooLarge:
            continue


class TestLetBy(unittest.TestCase):
    def assert_let_by(self, program, told):
        book, papers = told
        self.assertIsNone(check_program(program))
        self.assertIsNone(check_book(book))
        stands = warded(book)
        for part in range(len(book[1])):
            self.assertIsNone(check(book, part, papers[part]))
            self.assertIsNone(check(book, part, papers_of(book, part)))
            self.assertIsNone(why(book, part))
            for at, paper in papers[part]:
                self.assertTrue(stands[part][at] is None or stand_beneath(book[0], stands[part][at], paper))

    def test_by_hand(self):
        for program in by_hand():
            self.assert_let_by(program, made(program))

    def test_by_chance(self):
        many = 0
        for seed, program, told in by_chance(range(1000, 1500)):
            self.assert_let_by(program, told)
            many += 1
        self.assertGreater(many, 350)


class TestTellsTheSame(unittest.TestCase):
    def assert_same(self, program, book, part, inputs, budget):
        told = plain_run(program, part, inputs, budget)
        self.assertEqual(run(book, part, inputs, budget), told)
        self.assertEqual(run_watched(book, part, inputs, budget), told)
        self.assertIn(told[0][0], ("gave", "fault", "weary"))
        return told

    # With several budgets: the least and the greatest, just enough, one less and one more.
    def assert_same_with_all(self, program, book, part, inputs, ends):
        told = self.assert_same(program, book, part, inputs, MOST)
        used = MOST - told[2]
        ends[told[0][0]] = ends.get(told[0][0], 0) + 1
        for budget in {0, 1, used // 2, used - 1, used, used + 1} - {-1}:
            one = self.assert_same(program, book, part, inputs, budget)
            if told[0] != ("weary",):
                self.assertEqual(one[0] == ("weary",), budget < used)
                if budget >= used:
                    self.assertEqual(one, (told[0], told[1], budget - used))

    def test_by_hand(self):
        ends = {}
        for program in by_hand():
            book = made(program)[0]
            for part in doors(book):
                for words in INPUTS + ((3, 3), (4, 0), (10, 1), (11, 2), (12, -5), (14, 7)):
                    inputs = list(words[:len(book[1][part][0])])
                    self.assert_same_with_all(program, book, part, inputs, ends)
        self.assertEqual(set(ends), {"gave", "fault", "weary"})

    def test_what_they_tell(self):
        for program, inputs, expected in (
                (list_program(), [3], (("gave", 6), [1, 2, 3], 43)), (deep_program(), [3, 8], (("fault", 7), [8], 47)),
                (often_program(), [7], (("gave", 13), [], 10)), (often_program(), [13], (("fault", 2), [], 38)),
                (shared_program(), [2], (("gave", 11), [6, 9], 48)),
                (shared_program(), [3], (("gave", 10), [7, 10, 10], 48)),
                (either_program(), [1, 1], (("gave", 10), [11], 50)),
                (either_program(), [0, 0], (("gave", 10), [26], 50))):
            self.assertEqual(plain_run(program, 0, inputs, 50), expected)
            self.assertEqual(run(made(program)[0], 0, inputs, 50), expected)

    def test_by_chance(self):
        ends = {}
        for seed, program, told in by_chance(range(2000, 2400)):
            book = told[0]
            for part in doors(book):
                for words in INPUTS:
                    inputs = list(words[:len(book[1][part][0])])
                    self.assert_same_with_all(program, book, part, inputs, ends)
        self.assertGreater(min(ends[word] for word in ("gave", "fault", "weary")), 150)

    def test_at_no_door(self):
        for seed, program, told in by_chance(range(2000, 2060)):
            for part in [part for part in range(-1, len(program[1]) + 1) if part not in doors(told[0])]:
                for tells, whose in ((plain_run, program), (run, told[0]), (run_watched, told[0])):
                    with self.assertRaises(NoDoor):
                        tells(whose, part, [0] * (len(program[1][part][0]) if part in range(len(program[1])) else 0), 9)

    # Both machines step by step, with what the maker's papers say of each place.
    def test_step_by_step(self):
        met = 0
        for seed, program, told in by_chance(range(3000, 3150)):
            for part in doors(told[0]):
                for words in INPUTS[:3]:
                    met += self.assert_in_step(told, part, list(words[:len(told[0][1][part][0])]))
        for program in by_hand():
            for words in ((3, 1), (6, 0), (9, 9)):
                told = made(program)
                met += self.assert_in_step(told, 0, list(words[:len(told[0][1][0][0])]))
        self.assertGreater(met, 1000)

    def assert_in_step(self, told, part, inputs):
        book, papers = told
        kept = [dict(some) for some in papers]
        plain, watched = Plain(book, part, inputs, 25), Watched(book, part, inputs, 25)
        met = 0
        while watched.told()[0] is None:
            self.assertEqual(plain.told(), watched.told())
            self.assertEqual(plain.frames(), bare_frames(watched.frames()))
            self.assertEqual(plain.heap(), bare_heap(watched.heap()))
            number, at, boxes, stack = watched.frames()[-1]
            if at in kept[number]:
                met += 1
                kinds = kept[number][at]
                self.assertEqual((len(boxes), len(stack)), (len(kinds[0]), len(kinds[1])))
                for value, kind in zip(boxes + stack, kinds[0] + kinds[1]):
                    self.assertTrue(has_kind(book[0], watched.heap(), value, kind))
            plain.step()
            watched.step()
        self.assertEqual(plain.told(), watched.told())
        return met


class TestWrittenAndRead(unittest.TestCase):
    def test_bytes_and_text(self):
        rows = 0
        told = [told for seed, program, told in by_chance(range(1000, 1200))] + [made(program) for program in by_hand()]
        for book, papers in told:
            for part in book[1]:
                self.assertEqual(rows_of(bytes_of(part[4])), part[4])
                self.assertEqual(read(shown(part[4])), part[4])
                self.assertEqual(bytes_of(rows_of(bytes_of(part[4]))), bytes_of(part[4]))
                self.assertLessEqual(len(bytes_of(part[4])), 600)
                rows += len(part[4])
        self.assertGreater(rows, 5000)


if __name__ == "__main__":
    unittest.main()
