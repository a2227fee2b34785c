import copy
import unittest

from samples import ANY, NUMBER, ProgramMaker, num, read_makes, var, whole
from stackwarden.books import check_book
from stackwarden.errors import NoTree, TooLarge, WardenError
from stackwarden.maker import made
from stackwarden.papers import check
from stackwarden.rows import RECKONING
from stackwarden.stands import stand_joined
from stackwarden.texts import read
from stackwarden.trees import check_program
from stackwarden.warden import warded


def raw(c, mask):
    return ("raw", c, mask)


def lone():
    return ("new", 3, [])


def pair(one=num(4), other=None):
    return ("new", 1, [one, lone() if other is None else other])


# Makes as read_makes tells; variables n (a number), r (whole 1), t (whole 2), o (whole 0), in boxes 0 to 3.
TAKES = (("n", NUMBER), ("r", whole(1)), ("t", whole(2)), ("o", whole(0)))
KINDS = tuple(kind for name, kind in TAKES)


# Parts 1 to 3: takes nothing and gives a number; takes a number and a whole 1 and gives a whole 2; gives its number.
def others():
    return [([], NUMBER, [], num(7)),
            ([("a", NUMBER), ("b", whole(1))], whole(2), [], ("new", 2, [var("a"), var("b"), lone()])),
            ([("a", NUMBER)], NUMBER, [], var("a"))]


def program(body=(), answer=num(0), takes=TAKES, gives=NUMBER):
    return (read_makes(), [(list(takes), gives, list(body), answer)] + others())


class MakerCase(unittest.TestCase):
    # What is made is right and let by, with its papers and without.
    def made_well(self, told):
        before = copy.deepcopy(told)
        book, papers = made(told)
        self.assertEqual(told, before)
        self.assertIsNone(check_book(book))
        self.assertEqual((book[0], len(book[1]), len(papers)), (told[0], len(told[1]), len(told[1])))
        for part, head in enumerate(told[1]):
            self.assertEqual(book[1][part][0], [kind for name, kind in head[0]])
            self.assertEqual(book[1][part][1], head[1])
            self.assertIsNone(check(book, part, papers[part]))
        warded(book)
        return book, papers

    # Of the first part: its rows as a text, its stretches and its papers.
    def assert_made(self, told, rows, height=1, boxes=4, stretches=(), papers=()):
        book, given = self.made_well(told)
        part = book[1][0]
        self.assertEqual(part[4], read(rows))
        self.assertEqual(part[2:4], (boxes, height))
        self.assertEqual(part[5], list(stretches))
        self.assertEqual(given[0], list(papers))

    # Of an expression, in a drop: the rows ahead of it.
    def assert_value(self, tree, rows, height=1, papers=()):
        self.assert_made(program([("drop", tree)]), rows + "\ndrop\npush 0\ngive", height, 4, (), papers)

    # Of a body without new variables, behind which 0 is given.
    def assert_body(self, body, rows, height=1, boxes=4, stretches=(), papers=()):
        self.assert_made(program(body), rows + "\npush 0\ngive", height, boxes, stretches, papers)


def stand(*stack, boxes=KINDS):
    return (tuple(boxes), stack)


class TestExpressions(MakerCase):
    def test_num(self):
        for w in (0, 5, -1, 2147483647, -2147483648):
            self.assert_value(num(w), f"push {w}")

    def test_var(self):
        for b, name in enumerate("nrto"):
            self.assert_value(var(name), f"load {b}")

    def test_signs(self):
        for sign in RECKONING:
            self.assert_value((sign, var("n"), num(3)), f"load 0\npush 3\n{sign}", 2)
        self.assert_value(("add", ("sub", num(1), num(2)), ("mul", num(3), ("div", num(4), num(5)))),
                          "push 1\npush 2\nsub\npush 3\npush 4\npush 5\ndiv\nmul\nadd", 4)
        self.assert_value(("less", ("less", ("less", num(1), num(2)), num(3)), num(4)),
                          "push 1\npush 2\nless\npush 3\nless\npush 4\nless", 2)

    def test_new(self):
        self.assert_value(("new", 0, []), "make 0\nbegin 0")
        self.assert_value(lone(), "make 3\nbegin 3")
        self.assert_value(pair(), "make 1\npush 4\nfill 1 0\nmake 3\nbegin 3\nfill 1 1\nbegin 1", 2)
        self.assert_value(("new", 2, [num(1), pair(num(2), var("o")), lone()]),
                          "make 2\npush 1\nfill 2 0\nmake 1\npush 2\nfill 1 0\nload 3\nfill 1 1\nbegin 1\nfill 2 1\n"
                          "make 3\nbegin 3\nfill 2 2\nbegin 2", 3)

    def test_get(self):
        self.assert_value(("get", 1, 0, var("r")), "load 1\nget 1 0")
        self.assert_value(("get", 2, 2, var("t")), "load 2\nget 2 2")
        self.assert_value(("get", 1, 1, pair()),
                          "make 1\npush 4\nfill 1 0\nmake 3\nbegin 3\nfill 1 1\nbegin 1\nget 1 1", 2)

    def test_call(self):
        self.assert_value(("call", 1, []), "call 1")
        self.assert_value(("call", 2, [num(8), var("t")]), "push 8\nload 2\ncall 2", 2)
        self.assert_value(("call", 3, [("call", 3, [("call", 1, [])])]), "call 1\ncall 3\ncall 3")

    def test_either(self):
        self.assert_value(("either", var("n"), num(1), num(2)), "load 0\nzero 4\npush 1\njump 5\npush 2", 1,
                          [(4, stand()), (5, stand(NUMBER))])
        self.assert_value(("either", num(0), var("r"), var("t")), "push 0\nzero 4\nload 1\njump 5\nload 2", 1,
                          [(4, stand()), (5, stand(whole(1)))])
        self.assert_value(("either", num(0), lone(), var("t")), "push 0\nzero 5\nmake 3\nbegin 3\njump 6\nload 2", 1,
                          [(5, stand()), (6, stand(whole(0)))])

    def test_either_within_either(self):
        tree = ("either", ("either", num(1), num(2), num(3)), ("either", num(4), num(5), num(6)), num(7))
        self.assert_value(tree, "push 1\nzero 4\npush 2\njump 5\npush 3\nzero 12\npush 4\nzero 10\npush 5\njump 11\n"
                                "push 6\njump 13\npush 7", 1,
                          [(4, stand()), (5, stand(NUMBER)), (10, stand()), (11, stand(NUMBER)), (12, stand()),
                           (13, stand(NUMBER))])

    def test_several_places_that_are_one(self):
        # Of both ends at place 9 the inner one would be whole 2, the outer one whole 0.
        tree = ("either", num(1), lone(), ("either", num(2), var("t"), var("t")))
        self.assert_value(tree, "push 1\nzero 5\nmake 3\nbegin 3\njump 10\npush 2\nzero 9\nload 2\njump 10\nload 2", 1,
                          [(5, stand()), (9, stand()), (10, stand(whole(0)))])


class TestUnfinished(MakerCase):
    EITHER = ("either", var("n"), num(1), num(2))

    # The rows of it at a place, and its papers there, above what stands there.
    def rows_at(self, at):
        return f"load 0\nzero {at + 4}\npush 1\njump {at + 5}\npush 2"

    def papers_at(self, at, *under):
        return [(at + 4, stand(*under)), (at + 5, stand(*under, NUMBER))]

    def test_in_sums(self):
        self.assert_value(("add", num(8), self.EITHER), "push 8\n" + self.rows_at(1) + "\nadd", 2,
                          self.papers_at(1, NUMBER))
        self.assert_value(("add", self.EITHER, num(8)), self.rows_at(0) + "\npush 8\nadd", 2, self.papers_at(0))
        self.assert_value(("add", num(8), ("mul", num(9), self.EITHER)),
                          "push 8\npush 9\n" + self.rows_at(2) + "\nmul\nadd", 3, self.papers_at(2, NUMBER, NUMBER))

    def test_in_arguments(self):
        self.assert_value(("call", 2, [self.EITHER, var("t")]), self.rows_at(0) + "\nload 2\ncall 2", 2,
                          self.papers_at(0))
        # What stands there has the kind of the expression, not that of the take.
        part = ([("b", whole(1)), ("a", NUMBER)], NUMBER, [], num(0))
        told = (read_makes(), [(list(TAKES), NUMBER, [], ("call", 1, [var("t"), self.EITHER])), part])
        self.assert_made(told, "load 2\n" + self.rows_at(1) + "\ncall 1\ngive", 2, 4, (), self.papers_at(1, whole(2)))

    def test_in_half_made_records(self):
        self.assert_value(("new", 1, [self.EITHER, lone()]),
                          "make 1\n" + self.rows_at(1) + "\nfill 1 0\nmake 3\nbegin 3\nfill 1 1\nbegin 1", 2,
                          self.papers_at(1, raw(1, 0)))
        self.assert_value(("new", 1, [num(4), pair(self.EITHER)]),
                          "make 1\npush 4\nfill 1 0\nmake 1\n" + self.rows_at(4) +
                          "\nfill 1 0\nmake 3\nbegin 3\nfill 1 1\nbegin 1\nfill 1 1\nbegin 1", 3,
                          self.papers_at(4, raw(1, 1), raw(1, 0)))
        tree = ("new", 2, [num(4), var("o"), ("either", var("n"), lone(), lone())])
        self.assert_value(tree, "make 2\npush 4\nfill 2 0\nload 3\nfill 2 1\nload 0\nzero 10\nmake 3\nbegin 3\n"
                                "jump 12\nmake 3\nbegin 3\nfill 2 2\nbegin 2", 2,
                          [(10, stand(raw(2, 3))), (12, stand(raw(2, 3), whole(3)))])

    def test_in_puts(self):
        self.assert_body([("put", 1, 0, var("t"), self.EITHER)], "load 2\n" + self.rows_at(1) + "\nput 1 0", 2, 4, (),
                         self.papers_at(1, whole(2)))
        self.assert_body([("put", 1, 1, ("either", var("n"), var("r"), var("t")), var("o"))],
                         "load 0\nzero 4\nload 1\njump 5\nload 2\nload 3\nput 1 1", 2, 4, (),
                         [(4, stand()), (5, stand(whole(1)))])

    def test_in_gets_and_answers(self):
        self.assert_value(("get", 1, 0, ("either", var("n"), var("r"), var("t"))),
                          "load 0\nzero 4\nload 1\njump 5\nload 2\nget 1 0", 1, [(4, stand()), (5, stand(whole(1)))])
        self.assert_made(program([], self.EITHER), self.rows_at(0) + "\ngive", 1, 4, (), self.papers_at(0))


class TestStatements(MakerCase):
    def test_let_and_set(self):
        self.assert_body([("let", "x", NUMBER, num(3)), ("set", "x", var("n")), ("set", "n", var("x"))],
                         "push 3\nstore 4\nload 0\nstore 4\nload 4\nstore 0", 1, 5)
        self.assert_made(program([("let", "x", whole(0), var("t"))], ("get", 1, 0, var("r"))),
                         "load 2\nstore 4\nload 1\nget 1 0\ngive", 1, 5)

    def test_put(self):
        self.assert_body([("put", 2, 1, var("t"), lone())], "load 2\nmake 3\nbegin 3\nput 2 1", 2)

    def test_say_toss_drop_give(self):
        for word in ("say", "toss", "drop", "give"):
            self.assert_body([(word, ("add", var("n"), num(1)))], f"load 0\npush 1\nadd\n{word}", 2)

    def test_if(self):
        self.assert_body([("if", var("n"), [("say", num(1))], [("say", num(2)), ("say", num(3))])],
                         "load 0\nzero 5\npush 1\nsay\njump 9\npush 2\nsay\npush 3\nsay", 1, 4, (),
                         [(5, stand()), (9, stand())])
        self.assert_body([("if", var("n"), [], [])], "load 0\nzero 3\njump 3", 1, 4, (), [(3, stand())])
        self.assert_body([("if", var("n"), [("say", num(1))], [])], "load 0\nzero 5\npush 1\nsay\njump 5", 1, 4, (),
                         [(5, stand())])
        self.assert_body([("if", var("n"), [], [("say", num(1))])], "load 0\nzero 3\njump 5\npush 1\nsay", 1, 4, (),
                         [(3, stand()), (5, stand())])

    def test_while(self):
        self.assert_body([("while", var("n"), [("say", var("n"))])], "load 0\nzero 5\nload 0\nsay\njump 0", 1, 4, (),
                         [(0, stand()), (5, stand())])
        self.assert_body([("say", num(1)), ("while", ("less", num(1), var("n")), [])],
                         "push 1\nsay\npush 1\nload 0\nless\nzero 7\njump 2", 2, 4, (), [(2, stand()), (7, stand())])

    def test_kin(self):
        self.assert_body([("kin", 1, "x", var("o"), [("set", "r", var("x"))], [("say", num(2))])],
                         "load 3\nkin 1 6\ndrop\npush 2\nsay\njump 9\nstore 4\nload 4\nstore 1", 1, 5, (),
                         [(6, stand(whole(1), boxes=KINDS + (ANY,))), (9, stand(boxes=KINDS + (ANY,)))])
        self.assert_body([("kin", 3, "x", var("t"), [], [])], "load 2\nkin 3 4\ndrop\njump 5\nstore 4", 1, 5, (),
                         [(4, stand(whole(3), boxes=KINDS + (ANY,))), (5, stand(boxes=KINDS + (ANY,)))])

    def test_try(self):
        self.assert_body([("try", [("toss", num(5))], "x", [("say", var("x"))])],
                         "push 5\ntoss\njump 6\nstore 4\nload 4\nsay", 1, 5, [(0, 3, 3)],
                         [(3, stand(NUMBER, boxes=KINDS + (ANY,))), (6, stand(boxes=KINDS + (ANY,)))])
        self.assert_body([("say", num(1)), ("try", [], "x", [])], "push 1\nsay\njump 4\nstore 4", 1, 5, [(2, 3, 3)],
                         [(3, stand(NUMBER, boxes=KINDS + (ANY,))), (4, stand(boxes=KINDS + (ANY,)))])

    def test_body_answer_give(self):
        self.assert_made(program([("say", num(1)), ("say", num(2))], var("n")),
                         "push 1\nsay\npush 2\nsay\nload 0\ngive")
        self.assert_made(program([], var("t"), TAKES, whole(1)), "load 2\ngive")
        self.assert_made(program([], num(5), ()), "push 5\ngive", 1, 0)


class TestNested(MakerCase):
    def test_lists_within_lists(self):
        body = [("while", var("n"), [("if", var("n"), [("say", num(1))], [("say", num(2))])])]
        self.assert_body(body, "load 0\nzero 10\nload 0\nzero 7\npush 1\nsay\njump 9\npush 2\nsay\njump 0", 1, 4, (),
                         [(0, stand()), (7, stand()), (9, stand()), (10, stand())])
        body = [("if", var("n"), [("while", var("n"), [])], [("while", num(1), [])])]
        self.assert_body(body, "load 0\nzero 6\nload 0\nzero 5\njump 2\njump 9\npush 1\nzero 9\njump 6", 1, 4, (),
                         [(2, stand()), (5, stand()), (6, stand()), (9, stand())])

    def test_ends_that_are_one_are_joined(self):
        # The if's end, where x and y are there, is the kin's end, where they are gone.
        body = [("kin", 1, "x", var("o"), [("let", "y", NUMBER, num(1)), ("if", var("y"), [], [])], [])]
        six = KINDS + (whole(1), NUMBER)
        gone = KINDS + (ANY, ANY)
        self.assert_body(body, "load 3\nkin 1 4\ndrop\njump 10\nstore 4\npush 1\nstore 5\nload 5\nzero 10\njump 10", 1,
                         6, (), [(4, stand(whole(1), boxes=gone)), (10, stand(boxes=gone))])
        # Behind another row it has its own.
        body[0][4].append(("say", num(2)))
        self.assert_body(body, "load 3\nkin 1 4\ndrop\njump 12\nstore 4\npush 1\nstore 5\nload 5\nzero 10\njump 10\n"
                               "push 2\nsay", 1, 6, (),
                         [(4, stand(whole(1), boxes=gone)), (10, stand(boxes=six)), (12, stand(boxes=gone))])

    def test_an_end_that_is_a_top(self):
        body = [("try", [], "x", [("let", "y", whole(3), lone()), ("while", num(0), [])]), ("while", num(1), [])]
        gone = KINDS + (ANY, ANY)
        self.assert_body(body, "jump 8\nstore 4\nmake 3\nbegin 3\nstore 5\npush 0\nzero 8\njump 5\n"
                               "push 1\nzero 11\njump 8", 1, 6, [(0, 1, 1)],
                         [(1, stand(NUMBER, boxes=gone)), (5, stand(boxes=KINDS + (NUMBER, whole(3)))),
                          (8, stand(boxes=gone)), (11, stand(boxes=gone))])

    def test_variables_of_each_list(self):
        body = [("let", "x", NUMBER, num(1)), ("while", var("x"), [("let", "y", whole(1), var("t")), ("if", num(2), [
            ("let", "z", whole(3), lone()), ("while", num(3), [])], [])])]
        rows = ("push 1\nstore 4\nload 4\nzero 16\nload 2\nstore 5\npush 2\nzero 15\nmake 3\nbegin 3\nstore 6\n"
                "push 3\nzero 14\njump 11\njump 15\njump 2")
        one = KINDS + (NUMBER, ANY, ANY)
        two = KINDS + (NUMBER, whole(1), ANY)
        three = KINDS + (NUMBER, whole(1), whole(3))
        self.assert_body(body, rows, 1, 7, (), [(2, stand(boxes=one)), (11, stand(boxes=three)),
                                              (14, stand(boxes=three)), (15, stand(boxes=two)), (16, stand(boxes=one))])

    def test_stretches(self):
        def try_of(first, second=()):
            return ("try", list(first), "abcdefgh"[self.named], list(second))

        self.named = 0
        self.assert_stretches([try_of([]), try_of([])], [(0, 1, 1), (2, 3, 3)])
        # Within the first list: ahead of its own; within the second: behind.
        inner = try_of([])
        self.named = 1
        self.assert_stretches([try_of([inner])], [(0, 1, 1), (0, 3, 3)])
        self.assert_stretches([try_of([], [inner])], [(0, 1, 1), (2, 3, 3)])
        self.assert_stretches([try_of([inner], [inner])], [(0, 1, 1), (0, 3, 3), (4, 5, 5)])
        self.assert_stretches([try_of([inner, inner], [inner]), inner],
                              [(0, 1, 1), (2, 3, 3), (0, 5, 5), (6, 7, 7), (8, 9, 9)])
        outer = try_of([inner], [inner])
        self.named = 2
        self.assert_stretches([try_of([outer], [outer])],
                              [(0, 1, 1), (0, 3, 3), (4, 5, 5), (0, 7, 7), (8, 9, 9), (8, 11, 11), (12, 13, 13)])

    def assert_stretches(self, body, expected):
        self.assertEqual(self.made_well(program(body))[0][1][0][5], expected)


class TestBoxes(MakerCase):
    # The boxes that are stored into, in order, and how many there are.
    def assert_boxes(self, body, stored, boxes, takes=()):
        part = self.made_well(program(body, num(0), takes))[0][1][0]
        self.assertEqual([row[1] for row in part[4] if row[0] == "store"], stored)
        self.assertEqual(part[2], boxes)

    def let(self, name):
        return ("let", name, NUMBER, num(1))

    def test_takes_first(self):
        self.assert_boxes([], [], 0)
        self.assert_boxes([], [], 4, TAKES)
        self.assert_boxes([self.let("x"), self.let("y")], [4, 5], 6, TAKES)
        self.assert_boxes([self.let("x"), self.let("y")], [0, 1], 2)

    def test_a_list_that_is_done_makes_its_numbers_free(self):
        for inner in ((lambda some: ("if", num(1), some, [])), (lambda some: ("if", num(1), [], some)),
                      (lambda some: ("while", num(1), some)), (lambda some: ("try", some, "w", []))):
            # Of try, w is stored behind the list.
            more = [1] if inner([])[0] == "try" else []
            self.assert_boxes([self.let("x"), inner([self.let("y"), self.let("z")]), self.let("y")],
                              [0, 1, 2] + more + [1], 3)
        self.assert_boxes([("if", num(1), [self.let("x"), self.let("y")], [self.let("x")]), self.let("z")],
                          [0, 1, 0, 0], 2)
        self.assert_boxes([("if", num(1), [("if", num(1), [self.let("x")], []), self.let("y")], []), self.let("z")],
                          [0, 0, 0], 1)

    def test_x_of_kin_and_try(self):
        # Of kin the second list is made first, and x is not there in it.
        kin = ("kin", 1, "x", var("o"), [self.let("y")], [self.let("z")])
        self.assert_boxes([kin, self.let("v")], [4, 4, 5, 4], 6, TAKES)
        self.assert_boxes([("try", [self.let("y"), self.let("z")], "x", [self.let("y")]), self.let("v")],
                          [0, 1, 0, 1, 0], 2)

    def test_as_many_as_are_there_at_once(self):
        self.assert_boxes([("if", num(1), [self.let("x")], [self.let("y")]), ("while", num(1), [self.let("x")])],
                          [0, 0, 0], 1)
        self.assert_boxes([("give", num(1)), ("if", num(1), [self.let("x"), self.let("y"), self.let("z")], [])],
                          [0, 1, 2], 3)


class TestHeight(MakerCase):
    def assert_height(self, told, height):
        self.assertEqual(self.made_well(told)[0][1][0][3], height)

    def deep(self, many):
        return num(1) if many == 1 else ("add", num(1), self.deep(many - 1))

    def test_at_least_one(self):
        self.assert_height(program([], num(0), ()), 1)

    def test_as_high_as_it_ever_grows(self):
        for height in range(1, 9):
            self.assert_height(program([("say", self.deep(height))]), height)
            self.assert_height(program([], self.deep(height)), height)
            let = ("let", "x", NUMBER, self.deep(height))
            self.assert_height(program([("if", num(1), [], [("while", num(1), [let])])]), height)
        self.assert_height(program([("say", self.deep(3)), ("say", self.deep(5)), ("say", self.deep(2))]), 5)

    def test_behind_what_does_not_go_on(self):
        for first in (("give", num(1)), ("toss", num(1)), ("while", num(1), [])):
            self.assert_height(program([first, ("say", self.deep(6))]), 6)
            self.assert_height(program([("if", num(1), [first, ("say", self.deep(6))], [])]), 6)
            self.assert_height(program([first], self.deep(7)), 7)

    def test_a_call_without_arguments_grows(self):
        self.assert_height(program([("say", ("add", num(1), ("add", num(1), ("call", 1, []))))]), 3)
        self.assert_height(program([("drop", ("call", 2, [num(1), pair(self.deep(3))]))]), 5)


class TestBehind(MakerCase):
    def test_what_stands_behind_is_made_like_all_else(self):
        for word in ("give", "toss"):
            self.assert_body([(word, num(1)), ("if", var("n"), [("let", "x", NUMBER, num(2))], [])],
                             f"push 1\n{word}\nload 0\nzero 7\npush 2\nstore 4\njump 7", 1, 5, (),
                             [(7, stand(boxes=KINDS + (ANY,)))])
        self.assert_body([("while", num(1), []), ("try", [], "x", [])],
                         "push 1\nzero 3\njump 0\njump 5\nstore 4", 1, 5, [(3, 4, 4)],
                         [(0, stand(boxes=KINDS + (ANY,))), (3, stand(boxes=KINDS + (ANY,))),
                          (4, stand(NUMBER, boxes=KINDS + (ANY,))), (5, stand(boxes=KINDS + (ANY,)))])

    def test_no_places_no_papers(self):
        book, papers = self.made_well(program([("say", num(1)), ("give", num(2)), ("toss", num(3))]))
        self.assertEqual(papers, [[], [], [], []])


class TestTooLarge(MakerCase):
    def assert_too_large(self, told, part):
        self.assertIsNone(check_program(told))
        before = copy.deepcopy(told)
        with self.assertRaises(TooLarge) as caught:
            made(told)
        self.assertIsInstance(caught.exception, WardenError)
        self.assertEqual(caught.exception.part, part)
        self.assertEqual(told, before)

    def body_of(self, size):
        return (read_makes(), [([], NUMBER, size, num(0))])

    def boxes(self, many):
        return [("let", "abcdefghij"[k], NUMBER, num(1)) for k in range(many)]

    def height(self, many):
        return [("say", TestHeight.deep(self, many))]

    deep = TestHeight.deep

    def stretches(self, many):
        return [("try", [], "x", [])] * many

    def test_boxes(self):
        for many in range(9):
            self.assertEqual(self.made_well(self.body_of(self.boxes(many)))[0][1][0][2], many)
        self.assert_too_large(self.body_of(self.boxes(9)), 0)
        takes = [("abcdefghij"[k], NUMBER) for k in range(9)]
        self.assert_too_large((read_makes(), [(takes, NUMBER, [], num(0))]), 0)
        self.made_well((read_makes(), [(takes[:8], NUMBER, [], num(0))]))
        self.assert_too_large((read_makes(), [(takes[:8], NUMBER, [("try", [], "x", [])], num(0))]), 0)
        self.assert_too_large((read_makes(), [(takes[:8], NUMBER, [("give", num(1)),
                                                                   ("if", num(0), [], [("let", "x", NUMBER, num(1))])],
                                               num(0))]), 0)

    def test_height(self):
        self.assertEqual(self.made_well(self.body_of(self.height(8)))[0][1][0][3], 8)
        self.assert_too_large(self.body_of([("say", ("add", num(1), self.deep(8)))]), 0)
        # A tree eight deep may be nine high: eight arguments ahead of one.
        part = ([("abcdefghi"[k], NUMBER) for k in range(9)], NUMBER, [], num(0))
        call = ("call", 0, [num(1)] * 9)
        self.assert_too_large((read_makes(), [([], NUMBER, [], ("call", 1, [num(1)] * 9)), part]), 0)
        self.assert_too_large((read_makes(), [part, ([], NUMBER, [], call)]), 0)

    # So many rows, an odd number, with the answer and give: an if with forty says has 83, a say two more.
    def rows(self, many):
        says = [("say", num(1))] * 20
        return [("if", num(1), says, says)] + [("say", num(1))] * ((many - 85) // 2)

    def test_rows(self):
        for many in (85, 87, 97, 99):
            self.assertEqual(len(self.made_well(self.body_of(self.rows(many)))[0][1][0][4]), many)
        # A record that is dropped has three.
        for many in (88, 98, 100):
            body = self.rows(many - 3) + [("drop", lone())]
            self.assertEqual(len(self.made_well(self.body_of(body))[0][1][0][4]), many)
            body = [("drop", lone())] + self.rows(many - 3)
            self.assertEqual(len(self.made_well(self.body_of(body))[0][1][0][4]), many)
        self.assert_too_large(self.body_of(self.rows(101)), 0)
        self.assert_too_large(self.body_of(self.rows(99) + [("drop", lone())]), 0)
        self.assert_too_large(self.body_of([("give", num(0))] + self.rows(99)), 0)
        self.assert_too_large(self.body_of([("while", num(1), self.rows(97) + [("drop", lone())])]), 0)

    def test_stretches(self):
        self.assertEqual(len(self.made_well(self.body_of(self.stretches(8)))[0][1][0][5]), 8)
        self.assert_too_large(self.body_of(self.stretches(9)), 0)
        self.assert_too_large(self.body_of([("give", num(1))] + self.stretches(9)), 0)

    def test_the_first_such_part(self):
        small = ([], NUMBER, [], num(0))
        wrong = [([], NUMBER, some, num(0)) for some in (self.boxes(9), self.stretches(9))]
        self.assert_too_large((read_makes(), [small, wrong[0], wrong[1]]), 1)
        self.assert_too_large((read_makes(), [small, small, wrong[1], small, wrong[0]]), 2)
        self.assert_too_large((read_makes(), [small] * 7 + wrong[:1]), 7)


class TestNoTree(unittest.TestCase):
    def assert_no_tree(self, told, part):
        before = copy.deepcopy(told)
        with self.assertRaises(NoTree) as caught:
            made(told)
        self.assertEqual(caught.exception.part, part)
        self.assertEqual(told, before)

    def test_as_the_trees_are_told(self):
        good = ([], NUMBER, [], num(0))
        self.assert_no_tree(([(None, []), (1, [])], [good]), None)
        self.assert_no_tree((read_makes(), [good, ([("A", NUMBER)], NUMBER, [], num(0))]), 1)
        self.assert_no_tree((read_makes(), [good, good, ([], NUMBER, [("say", var("x"))], num(0))]), 2)

    def test_ahead_of_too_large(self):
        large = ([], NUMBER, [("try", [], "x", [])] * 9, num(0))
        self.assert_no_tree((read_makes(), [large, ([], NUMBER, [], var("x"))]), 1)
        self.assert_no_tree((read_makes(), [([], NUMBER, large[2] + [("say", var("x"))], num(0))]), 0)
        self.assert_no_tree(([(0, [])], [large]), None)


# Changes every list in a thing, as deep as it goes.
def spoil(thing):
    if isinstance(thing, (list, tuple)):
        for inner in thing:
            spoil(inner)
    if isinstance(thing, list):
        thing.append("spoilt")
        thing.reverse()


# All lists in a thing, by their identity.
def lists_in(thing):
    found = [id(thing)] if isinstance(thing, list) else []
    for inner in thing if isinstance(thing, (list, tuple)) else ():
        found.extend(lists_in(inner))
    return found


class TestCopies(unittest.TestCase):
    def programs(self):
        body = [("try", [("let", "x", whole(1), pair())], "x", [("while", num(0), [])])]
        same = (list(TAKES), NUMBER, body, ("either", num(1), num(2), num(3)))
        told = [program(body, same[3]), (read_makes(), [same, same])]
        return copy.deepcopy(told[:1]) + copy.deepcopy(told[1:]) + [ProgramMaker(seed).made() for seed in (0, 2, 5, 9)]

    def test_made_twice_is_equal_and_stays(self):
        for told in self.programs():
            first, second = made(told), made(told)
            before = copy.deepcopy(second)
            self.assertEqual(first, second)
            spoil(first)
            self.assertEqual((second, made(told)), (before, before))
            spoil(told)
            self.assertEqual(second, before)

    def test_each_list_is_new(self):
        for told in self.programs():
            answer = made(told)
            found = lists_in(answer)
            self.assertEqual(len(found), len(set(found)))
            self.assertFalse(set(found) & set(lists_in(told)))
            self.assertFalse(set(found) & set(lists_in(made(told))))


class Plain:
    """Makes a part's code once more, straight from points 50 to 53: first with marks for places, then with numbers."""

    def __init__(self, program, number):
        self.makes = program[0]
        self.parts = program[1]
        self.told = program[1][number]
        self.marks = 0
        self.code = []
        self.tries = []

    def mark(self):
        self.marks += 1
        return ("mark", self.marks)

    def lay(self, mark, variables, stack):
        self.code.append(("here", mark, list(variables), list(stack)))

    def kind(self, variables, tree):
        word = tree[0]
        if word == "var":
            return [kind for name, kind in variables if name == tree[1]][0]
        if word == "new":
            return ("whole", tree[1])
        if word == "get":
            return self.fields(tree[1])[tree[2]]
        if word == "call":
            return self.parts[tree[1]][1]
        if word == "either":
            one, other = self.kind(variables, tree[2]), self.kind(variables, tree[3])
            return stand_joined(self.makes, ((one,), ()), ((other,), ()))[0][0]
        return NUMBER

    def fields(self, c):
        return [] if c == 0 else self.fields(self.makes[c][0]) + self.makes[c][1]

    def value(self, variables, stack, tree):
        word = tree[0]
        self.code.append(("high", len(stack) + 1))
        if word == "num":
            self.code.append(("push", tree[1]))
        elif word == "var":
            self.code.append(("load", [name for name, kind in variables].index(tree[1])))
        elif word == "new":
            self.code.append(("make", tree[1]))
            mask = 0
            for f, e in enumerate(tree[2]):
                self.value(variables, stack + [("raw", tree[1], mask)], e)
                self.code.append(("fill", tree[1], f))
                mask += 2 ** f
            self.code.append(("begin", tree[1]))
        elif word == "either":
            o, e = self.mark(), self.mark()
            self.value(variables, stack, tree[1])
            self.code.append(("zero", o))
            self.value(variables, stack, tree[2])
            self.code.append(("jump", e))
            self.lay(o, variables, stack)
            self.value(variables, stack, tree[3])
            self.lay(e, variables, stack + [self.kind(variables, tree)])
        else:
            inner = tree[3:] if word == "get" else tree[2] if word == "call" else tree[1:]
            above = []
            for e in inner:
                self.value(variables, stack + above, e)
                above.append(self.kind(variables, e))
            self.code.append(tree[:3] if word == "get" else tree[:2] if word == "call" else tree[:1])

    def statements(self, variables, trees):
        variables = list(variables)
        for tree in trees:
            self.statement(variables, tree)
        return variables

    def store(self, variables, name, kind):
        variables.append((name, kind))
        self.code.append(("store", len(variables) - 1))
        self.code.append(("boxes", len(variables)))

    def statement(self, variables, tree):
        word = tree[0]
        if word == "let":
            self.value(variables, [], tree[3])
            self.store(variables, tree[1], tree[2])
        elif word == "set":
            self.value(variables, [], tree[2])
            self.code.append(("store", [name for name, kind in variables].index(tree[1])))
        elif word == "put":
            self.value(variables, [], tree[3])
            self.value(variables, [self.kind(variables, tree[3])], tree[4])
            self.code.append(tree[:3])
        elif word in ("say", "toss", "drop", "give"):
            self.value(variables, [], tree[1])
            self.code.append((word,))
        else:
            getattr(self, "do_" + word)(variables, self.mark(), self.mark(), tree)

    def do_if(self, variables, o, e, tree):
        self.value(variables, [], tree[1])
        self.code.append(("zero", o))
        self.statements(variables, tree[2])
        self.code.append(("jump", e))
        self.lay(o, variables, [])
        self.statements(variables, tree[3])
        self.lay(e, variables, [])

    def do_while(self, variables, t, e, tree):
        self.lay(t, variables, [])
        self.value(variables, [], tree[1])
        self.code.append(("zero", e))
        self.statements(variables, tree[2])
        self.code.append(("jump", t))
        self.lay(e, variables, [])

    def do_kin(self, variables, o, e, tree):
        self.value(variables, [], tree[3])
        self.code.append(("kin", tree[1], o))
        self.code.append(("drop",))
        self.statements(variables, tree[5])
        self.code.append(("jump", e))
        self.lay(o, variables, [("whole", tree[1])])
        inner = list(variables)
        self.store(inner, tree[2], ("whole", tree[1]))
        self.statements(inner, tree[4])
        self.lay(e, variables, [])

    def do_try(self, variables, o, e, tree):
        s = self.mark()
        self.code.append(("place", s))
        self.statements(variables, tree[1])
        self.code.append(("jump", e))
        self.tries.append((s, o))
        self.lay(o, variables, [NUMBER])
        inner = list(variables)
        self.store(inner, tree[2], NUMBER)
        self.statements(inner, tree[3])
        self.lay(e, variables, [])

    # The part, and its papers.
    def made(self):
        takes, gives, body, answer = self.told
        variables = self.statements(list(takes), body)
        self.value(variables, [], answer)
        self.code.append(("give",))
        places, rows, notes = {}, [], {}
        boxes = max([len(takes)] + [item[1] for item in self.code if item[0] == "boxes"])
        height = max(item[1] for item in self.code if item[0] == "high")
        for item in self.code:
            if item[0] == "here":
                notes.setdefault(len(rows), []).append(item[2:])
            if item[0] in ("here", "place"):
                places[item[1]] = len(rows)
            elif item[0] not in ("high", "boxes"):
                rows.append(item)
        rows = [tuple(places.get(thing, thing) for thing in row) for row in rows]
        papers = []
        for at in sorted(notes):
            stands = [(tuple(kind for name, kind in some) + (ANY,) * (boxes - len(some)), tuple(stack))
                      for some, stack in notes[at]]
            whole = stands[0]
            for one in stands:
                whole = stand_joined(self.makes, whole, one)
            papers.append((at, whole))
        stretches = [(places[s], places[o], places[o]) for s, o in self.tries]
        return ([kind for name, kind in takes], gives, boxes, height, rows, stretches), papers


class TestByChance(MakerCase):
    def test_as_told_once_more(self):
        many = 0
        for seed in range(600):
            told = ProgramMaker(seed).made()
            expected = [Plain(told, number).made() for number in range(len(told[1]))]
            large = [number for number, (part, papers) in enumerate(expected)
                     if part[2] > 8 or part[3] > 8 or len(part[4]) > 100 or len(part[5]) > 8]
            if large:
                with self.assertRaises(TooLarge) as caught:
                    made(told)
                self.assertEqual(caught.exception.part, large[0], seed)
                continue
            many += 1
            book, papers = self.made_well(told)
            self.assertEqual(book, (told[0], [part for part, some in expected]), seed)
            self.assertEqual(papers, [some for part, some in expected], seed)
        self.assertGreater(many, 400)


if __name__ == "__main__":
    unittest.main()
