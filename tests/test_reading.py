import copy
import unittest

from samples import NUMBER, num, read_makes, var, whole
from stackwarden.errors import NoDoor, WardenError
from stackwarden.reading import plain_run
from stackwarden.trees import check_program
from stackwarden.words import reckoned

GREATEST = 2147483647
LEAST = -2147483648

# Parts that every program here has behind the first one:
# 1 says its number and gives it, 2 tosses its number, 3 gives the first field of a record,
# 4 calls itself as often as it is told, and gives 0, 5 sets the first field of a record and gives the record.
ECHO, TOSS, FIRST, DEEP, SET = 1, 2, 3, 4, 5


def one_less(x):
    return ("sub", var(x), num(1))


def others():
    return [([("n", NUMBER)], NUMBER, [("say", var("n"))], var("n")),
            ([("n", NUMBER)], NUMBER, [("toss", var("n"))], num(0)),
            ([("r", whole(1))], NUMBER, [], ("get", 1, 0, var("r"))),
            ([("n", NUMBER)], NUMBER, [("if", var("n"), [("give", ("call", 4, [one_less("n")]))], [])], num(0)),
            ([("r", whole(1)), ("n", NUMBER)], whole(1), [("put", 1, 0, var("r"), var("n"))], var("r"))]


def echo(w):
    return ("call", ECHO, [num(w)])


def toss(w):
    return ("call", TOSS, [num(w)])


def lone():
    return ("new", 3, [])


def pair(e=num(4)):
    return ("new", 1, [e, lone()])


def triple(e=num(5)):
    return ("new", 2, [e, ("new", 0, []), lone()])


def first(e):
    return ("get", 1, 0, e)


def program(body=(), answer=num(0), takes=()):
    return (read_makes(), [([(name, NUMBER) for name in takes], NUMBER, list(body), answer)] + others())


class ReadingCase(unittest.TestCase):
    def assert_run(self, told, inputs, budget, expected):
        check_program(told)
        before = copy.deepcopy((told, inputs))
        answer = plain_run(told, 0, inputs, budget)
        self.assertEqual(answer, expected)
        self.assertEqual((type(answer), type(answer[0]), type(answer[1])), (tuple, tuple, list))
        self.assertEqual((told, inputs), before)

    # What a body and an answer tell, of a hundred; what was taken is given as `took`.
    def assert_tells(self, end, said, body=(), answer=num(0), took=0, takes=(), inputs=()):
        told = program(body, answer, takes)
        self.assert_run(told, list(inputs), 100, (end, list(said), 100 - took))
        # With just enough it tells the same, with one less it grows weary.
        self.assert_run(told, list(inputs), took, (end, list(said), 0))
        if took > 0:
            answer = plain_run(told, 0, list(inputs), took - 1)
            self.assertEqual((answer[0], answer[2]), (("weary",), 0))
            self.assertEqual(answer[1], list(said)[:len(answer[1])])

    def assert_gives(self, w, tree, took=0, said=()):
        self.assert_tells(("gave", w), said, [], tree, took)


class TestExpressions(ReadingCase):
    def test_num(self):
        for w in (0, 5, -1, GREATEST, LEAST):
            self.assert_gives(w, num(w))

    def test_var(self):
        for k, name in enumerate(("a", "b", "c")):
            self.assert_tells(("gave", (7, -8, 9)[k]), [], [], var(name), 0, ("a", "b", "c"), (7, -8, 9))

    def test_signs(self):
        for sign in ("add", "sub", "mul", "div", "rem", "less", "same"):
            for one in (0, 1, -1, 7, -7, GREATEST, LEAST):
                for other in (0, 1, -1, 2, -2, 7, GREATEST, LEAST):
                    if other == 0 and sign in ("div", "rem"):
                        self.assert_tells(("fault", 1), [], [], (sign, num(one), num(other)))
                    else:
                        self.assert_gives(reckoned(sign, one, other), (sign, num(one), num(other)))

    def test_signs_by_hand(self):
        for tree, w in ((("sub", num(3), num(10)), -7), (("div", num(-7), num(2)), -4), (("rem", num(7), num(-2)), -1),
                        (("add", num(GREATEST), num(1)), LEAST), (("less", num(3), num(3)), 0),
                        (("same", num(3), num(3)), 1), (("mul", ("add", num(2), num(3)), ("sub", num(9), num(2))), 35)):
            self.assert_gives(w, tree)

    def test_new_and_get(self):
        self.assert_gives(4, first(pair()))
        self.assert_gives(5, first(triple()))
        self.assert_gives(5, ("get", 2, 0, triple()))
        body = [("let", "r", whole(1), pair()), ("let", "t", whole(2), ("new", 2, [num(6), var("r"), lone()])),
                ("kin", 1, "x", ("get", 2, 1, var("t")), [("give", first(var("x")))], [])]
        self.assert_tells(("gave", 4), [], body)
        body[2] = ("kin", 1, "x", ("get", 2, 2, var("t")), [("give", num(9))], [])
        self.assert_tells(("gave", 0), [], body)

    def test_each_new_is_another_record(self):
        make = ("let", "r", whole(1), pair())
        put = ("put", 1, 0, var("r"), num(8))
        self.assert_tells(("gave", 4), [8], [make, put, ("say", first(var("r")))], first(pair()))

    def test_call(self):
        self.assert_gives(3, echo(3), 1, [3])
        self.assert_gives(4, ("call", FIRST, [pair()]), 1)
        self.assert_gives(5, ("call", FIRST, [triple()]), 1)
        self.assert_gives(9, first(("call", SET, [pair(), num(9)])), 1)
        self.assert_gives(6, ("add", echo(4), echo(2)), 2, [4, 2])
        two = (read_makes(), [([], NUMBER, [], ("call", 1, [num(10), num(3)])),
                              ([("a", NUMBER), ("b", NUMBER)], NUMBER, [], ("sub", var("a"), var("b")))])
        self.assert_run(two, [], 1, (("gave", 7), [], 0))

    def test_a_call_has_variables_of_its_own(self):
        told = (read_makes(), [([("a", NUMBER)], NUMBER, [("drop", ("call", 1, [num(5)]))], var("a")),
                               ([("a", NUMBER)], NUMBER, [("set", "a", num(6)), ("let", "b", NUMBER, num(7))],
                                var("b"))])
        self.assert_run(told, [3], 9, (("gave", 3), [], 8))

    def test_either(self):
        for w, given in ((1, 1), (-1, 1), (7, 1), (LEAST, 1), (0, 2)):
            self.assert_gives(given, ("either", num(w), num(1), num(2)))
            self.assert_gives(given + 10, ("either", num(w), echo(11), echo(12)), 1, [given + 10])
        self.assert_gives(4, first(("either", num(1), pair(), triple())))
        self.assert_gives(5, first(("either", num(0), pair(), triple())))

    def test_from_the_left_to_the_right(self):
        self.assert_gives(3, ("add", echo(1), echo(2)), 2, [1, 2])
        self.assert_gives(1, ("less", ("add", echo(1), echo(2)), ("mul", echo(3), echo(4))), 4, [1, 2, 3, 4])
        self.assert_gives(2, ("either", echo(0), echo(1), echo(2)), 2, [0, 2])
        self.assert_gives(1, first(("new", 2, [echo(1), ("new", 1, [echo(2), lone()]), lone()])), 2, [1, 2])
        three = (read_makes(), [([], NUMBER, [], ("call", 6, [echo(3), echo(1), echo(2)]))] + others() +
                 [([("a", NUMBER), ("b", NUMBER), ("c", NUMBER)], NUMBER, [("say", num(9))], var("b"))])
        self.assert_run(three, [], 9, (("gave", 1), [3, 1, 2, 9], 5))
        self.assert_tells(("gave", 0), [1, 2], [("put", 1, 0, pair(echo(1)), echo(2))], num(0), 2)

    def test_a_fault_in_the_first_goes_ahead(self):
        nought = ("div", num(1), num(0))
        for one, other, w in ((nought, toss(7), 1), (toss(7), nought, 7), (toss(7), toss(8), 7)):
            took = 1 if one[0] == "call" else 0
            for tree in (("add", one, other), ("div", one, other), ("call", 5, [pair(one), other]),
                         first(("new", 1, [one, pair(other)])), ("either", one, other, other)):
                if tree[0] == "call":
                    tree = first(tree)
                self.assert_tells(("fault", w), [], [], tree, took)
            self.assert_tells(("fault", w), [], [("put", 1, 0, pair(one), other)], num(0), took)
        # What was reckoned ahead of the fault is done.
        self.assert_tells(("fault", 8), [1], [], ("add", echo(1), ("add", toss(8), echo(2))), 2)
        self.assert_tells(("fault", 1), [0], [], ("div", num(4), echo(0)), 1)


class TestStatements(ReadingCase):
    def test_let_and_set(self):
        body = [("let", "x", NUMBER, num(3)), ("let", "y", NUMBER, ("add", var("x"), num(1))),
                ("set", "x", ("mul", var("x"), var("y"))), ("say", var("x")), ("say", var("y"))]
        self.assert_tells(("gave", 12), [12, 4], body, var("x"))
        self.assert_tells(("gave", 6), [], [("set", "a", num(6))], var("a"), 0, ("a",), (5,))

    def test_put(self):
        body = [("let", "r", whole(1), pair()), ("let", "s", whole(0), var("r")), ("put", 1, 0, var("r"), num(8)),
                ("kin", 1, "x", var("s"), [("say", first(var("x"))), ("put", 1, 0, var("x"), num(9))], [])]
        self.assert_tells(("gave", 9), [8], body, first(var("r")))
        body = [("let", "t", whole(2), triple()), ("put", 2, 1, var("t"), var("t")),
                ("kin", 2, "x", ("get", 2, 1, var("t")), [("put", 2, 0, var("x"), num(3))], [])]
        self.assert_tells(("gave", 3), [], body, first(var("t")))
        # A record that a part is handed is the same one.
        body = [("let", "r", whole(1), pair()), ("drop", ("call", SET, [var("r"), num(6)]))]
        self.assert_tells(("gave", 6), [], body, first(var("r")), 1)

    def test_put_and_its_own_value(self):
        # Both expressions are reckoned ahead of the change.
        body = [("let", "r", whole(1), pair()),
                ("put", 1, 0, var("r"), ("add", first(var("r")), first(("call", SET, [var("r"), num(7)]))))]
        self.assert_tells(("gave", 11), [], body, first(var("r")), 1)

    def test_say(self):
        self.assert_tells(("gave", 0), [5, -6, GREATEST], [("say", num(5)), ("say", num(-6)), ("say", num(GREATEST))])

    def test_drop(self):
        self.assert_tells(("gave", 0), [5], [("drop", echo(5)), ("drop", pair()), ("drop", num(1))], num(0), 1)

    def test_toss(self):
        for w in (0, 1, 2, -5, GREATEST, LEAST):
            self.assert_tells(("fault", w), [3], [("say", num(3)), ("toss", num(w)), ("say", num(4))])
        self.assert_tells(("fault", 9), [], [("toss", toss(9))], num(0), 1)

    def test_if(self):
        for w, said in ((1, [1]), (-7, [1]), (0, [2])):
            self.assert_tells(("gave", 0), said, [("if", num(w), [("say", num(1))], [("say", num(2))])])
            self.assert_tells(("gave", 0), [w] + said,
                              [("if", echo(w), [("say", num(1))], [("say", num(2))])], num(0), 1)
        self.assert_tells(("gave", 0), [3], [("if", num(1), [], []), ("if", num(0), [], []), ("say", num(3))])

    def test_a_name_told_again(self):
        body = [("if", num(1), [("let", "x", NUMBER, num(1)), ("say", var("x"))], []), ("let", "x", NUMBER, num(2)),
                ("say", var("x"))]
        self.assert_tells(("gave", 2), [1, 2], body, var("x"))

    def test_kin(self):
        for e, c, under in ((lone(), 3, True), (lone(), 0, True), (lone(), 1, False), (pair(), 1, True),
                            (pair(), 2, False), (pair(), 3, False), (triple(), 1, True), (triple(), 2, True),
                            (triple(), 0, True), (triple(), 3, False)):
            self.assert_tells(("gave", 0), [1 if under else 2],
                              [("kin", c, "x", e, [("say", num(1))], [("say", num(2))])])
        self.assert_tells(("gave", 0), [5], [("kin", 1, "x", triple(), [("say", first(var("x")))], [])])
        self.assert_tells(("gave", 0), [4, 2, 3],
                          [("kin", 2, "x", pair(echo(4)), [], [("say", num(2))]), ("say", num(3))], num(0), 1)

    def test_kin_by_what_it_is_not_what_it_is_told_as(self):
        body = [("let", "o", whole(0), triple()), ("kin", 2, "x", var("o"), [("say", num(1))], [("say", num(2))]),
                ("set", "o", lone()), ("kin", 2, "x", var("o"), [("say", num(1))], [("say", num(2))])]
        self.assert_tells(("gave", 0), [1, 2], body)

    def test_give(self):
        give = ("give", num(7))
        after = ("say", num(9))
        for body in ([give], [give, after], [("if", num(1), [give, after], []), after],
                     [("if", num(0), [], [give]), after], [("while", num(1), [give, after]), after],
                     [("try", [give, after], "x", [after]), after], [("try", [("toss", num(1))], "x", [give]), after],
                     [("kin", 3, "x", lone(), [give], []), after], [("kin", 1, "x", lone(), [], [give]), after],
                     [("while", num(1), [("try", [("if", num(1), [give], [])], "x", [])])]):
            self.assert_tells(("gave", 7), [], body, echo(1))

    def test_a_give_ends_its_own_call_alone(self):
        inner = ([("n", NUMBER)], NUMBER, [("while", num(1), [("give", var("n"))])], num(9))
        told = (read_makes(), [([], NUMBER, [("say", ("call", 1, [num(2)])), ("say", num(3))], num(4)), inner])
        self.assert_run(told, [], 9, (("gave", 4), [2, 3], 8))

    def test_the_answer(self):
        self.assert_tells(("gave", 3), [1, 2, 3], [("say", num(1)), ("say", num(2))], echo(3), 1)
        self.assert_tells(("fault", 1), [1], [("say", num(1))], ("rem", num(1), num(0)))


def down(turns, *body):
    return [("let", "i", NUMBER, num(turns)),
            ("while", var("i"), [("set", "i", one_less("i"))] + list(body))]


class TestWhile(ReadingCase):
    def test_turns(self):
        for turns in (0, 1, 2, 7):
            self.assert_tells(("gave", 0), range(turns - 1, -1, -1), down(turns, ("say", var("i"))), var("i"), turns)

    def test_not_one_turn(self):
        self.assert_tells(("gave", 0), [0], [("while", echo(0), [("say", num(1))])], num(0), 1)

    def test_without_statements(self):
        self.assert_run(program([("while", num(1), [])]), [], 50, (("weary",), [], 0))
        self.assert_run(program([("while", num(-1), [])]), [], 0, (("weary",), [], 0))
        self.assert_run(program([("while", num(0), [])]), [], 0, (("gave", 0), [], 0))

    def test_one_is_taken_when_the_list_is_done_ahead_of_asking_again(self):
        # Each turn says, and asking says, too.
        body = [("let", "i", NUMBER, num(2)),
                ("while", echo(5), [("say", var("i")), ("if", var("i"), [], [("give", num(8))]),
                                    ("set", "i", one_less("i"))])]
        for budget, end, said, left in ((0, ("weary",), [], 0), (1, ("weary",), [5, 2], 0), (2, ("weary",), [5, 2], 0),
                                        (3, ("weary",), [5, 2, 5, 1], 0), (4, ("weary",), [5, 2, 5, 1], 0),
                                        (5, ("gave", 8), [5, 2, 5, 1, 5, 0], 0),
                                        (6, ("gave", 8), [5, 2, 5, 1, 5, 0], 1)):
            self.assert_run(program(body), [], budget, (end, said, left))

    def test_left_by_a_give_or_a_fault_it_takes_none(self):
        self.assert_run(program([("while", num(1), [("give", num(3))])]), [], 0, (("gave", 3), [], 0))
        self.assert_run(program([("while", num(1), [("toss", num(3))])]), [], 0, (("fault", 3), [], 0))
        self.assert_run(program([("try", [("while", num(1), [("toss", num(3))])], "x", [("give", var("x"))])]), [], 0,
                        (("gave", 3), [], 0))
        self.assert_run(program([("try", [("while", ("div", num(1), num(0)), [])], "x", [("give", var("x"))])]), [], 0,
                        (("gave", 1), [], 0))

    def test_a_try_in_the_list_ends_its_turn_well(self):
        body = down(3, ("try", [("toss", var("i"))], "x", [("say", var("x"))]))
        self.assert_tells(("gave", 0), [2, 1, 0], body, var("i"), 3)

    def test_in_one_another(self):
        body = down(3, ("let", "j", NUMBER, var("i")), ("while", var("j"), [("set", "j", one_less("j")),
                                                                         ("say", var("j"))]))
        self.assert_tells(("gave", 0), [1, 0, 0], body, var("i"), 6)

    def test_a_let_in_the_list_is_new_each_turn(self):
        body = down(2, ("let", "x", NUMBER, num(5)), ("say", var("x")), ("set", "x", num(6)), ("say", var("x")))
        self.assert_tells(("gave", 0), [5, 6, 5, 6], body, var("i"), 2)

    def test_long_loops(self):
        told = program([("while", num(1), [("set", "a", ("add", var("a"), num(1)))])], num(0), ("a",))
        self.assert_run(told, [0], 10000, (("weary",), [], 0))
        told = program(down(10000, ("set", "a", ("add", var("a"), var("i")))), var("a"), ("a",))
        self.assert_run(told, [0], 10000, (("gave", 49995000), [], 0))
        self.assert_run(told, [0], 9999, (("weary",), [], 0))
        told = program(down(5000, ("say", ("call", ECHO, [var("i")]))), var("i"))
        answer = plain_run(told, 0, [], 10000)
        self.assertEqual((answer[0], len(answer[1]), answer[2]), (("gave", 0), 10000, 0))


class TestFaults(ReadingCase):
    def test_by_nought(self):
        for sign in ("div", "rem"):
            self.assert_tells(("fault", 1), [], [], (sign, num(5), num(0)))
            self.assert_tells(("fault", 1), [], [("if", (sign, num(0), num(0)), [], [])])
            self.assert_tells(("gave", 1), [], [("try", [("drop", (sign, num(5), num(0)))], "x", [("give", var("x"))])])

    def test_twelve_calls(self):
        # The door's is the first, so that a part may be called within one another eleven times.
        self.assert_gives(0, ("call", DEEP, [num(10)]), 11)
        self.assert_tells(("fault", 2), [], [], ("call", DEEP, [num(11)]), 12)
        self.assert_tells(("fault", 2), [], [], ("call", DEEP, [num(50)]), 12)
        self.assert_tells(("gave", 2), [], [("try", [("drop", ("call", DEEP, [num(11)]))], "x", [("give", var("x"))])],
                          num(0), 12)

    def test_calls_beside_one_another_are_not_deep(self):
        self.assert_tells(("gave", 0), [], [("drop", ("call", DEEP, [num(10)]))] * 3, num(0), 33)
        self.assert_tells(("gave", 0), [2, 2],
                          [("try", [("drop", ("call", DEEP, [num(11)]))], "x", [("say", var("x"))])] * 2 +
                          [("drop", ("call", DEEP, [num(10)]))], num(0), 35)

    def test_the_budget_goes_ahead_of_the_depth(self):
        told = program([("try", [("drop", ("call", DEEP, [num(11)]))], "x", [("give", var("x"))])])
        self.assert_run(told, [], 12, (("gave", 2), [], 0))
        self.assert_run(told, [], 11, (("weary",), [], 0))

    def test_the_arguments_go_ahead_of_the_budget(self):
        told = program([], ("call", ECHO, [("add", echo(1), ("call", TOSS, [echo(3)]))]))
        for budget, end, said in ((0, ("weary",), []), (1, ("weary",), [1]), (2, ("weary",), [1, 3]),
                                  (3, ("fault", 3), [1, 3])):
            self.assert_run(told, [], budget, (end, said, 0))
        self.assert_run(program([], ("call", ECHO, [("div", num(1), num(0))])), [], 0, (("fault", 1), [], 0))

    def test_uncaught(self):
        self.assert_tells(("fault", 5), [1], [("say", num(1)), ("if", num(1), [("toss", num(5))], [])], num(0))
        self.assert_tells(("fault", 6), [], [("while", toss(6), [])], num(0), 1)
        # Behind its try, and ahead of it, it is not caught.
        self.assert_tells(("fault", 7), [], [("toss", num(7)), ("try", [], "x", [("say", var("x"))])])
        self.assert_tells(("fault", 7), [], [("try", [], "x", [("say", var("x"))]), ("toss", num(7))])


class TestTry(ReadingCase):
    def test_no_fault(self):
        self.assert_tells(("gave", 0), [1, 3], [("try", [("say", num(1))], "x", [("say", num(2))]), ("say", num(3))])

    def test_a_fault(self):
        for fault, w, took in ((("toss", num(7)), 7, 0), (("drop", ("rem", num(1), num(0))), 1, 0),
                               (("drop", toss(-3)), -3, 1), (("drop", ("call", DEEP, [num(20)])), 2, 12),
                               (("if", num(1), [("while", num(1), [("toss", num(8))])], []), 8, 0)):
            self.assert_tells(("gave", 0), [1, w, 3],
                              [("try", [("say", num(1)), fault, ("say", num(2))], "x", [("say", var("x"))]),
                               ("say", num(3))], num(0), took)

    def test_within_another(self):
        inner = ("try", [("toss", num(4))], "x", [("say", var("x"))])
        self.assert_tells(("gave", 0), [4, 5], [("try", [inner, ("toss", num(5))], "x", [("say", var("x"))])])
        self.assert_tells(("gave", 0), [4], [("try", [inner], "x", [("say", num(9))])])

    def test_a_fault_in_the_second_list(self):
        inner = ("try", [("toss", num(4))], "x", [("say", var("x")), ("toss", ("add", var("x"), num(2)))])
        self.assert_tells(("fault", 6), [4], [inner])
        self.assert_tells(("gave", 0), [4, 6], [("try", [inner], "x", [("say", var("x"))])])
        self.assert_tells(("gave", 0), [4, 5, 6],
                          [("try", [("toss", num(4))], "x",
                            [("say", var("x")), ("try", [("toss", num(5))], "y", [("say", var("y"))])]),
                           ("say", num(6))])

    def test_round_a_call_that_tries_itself(self):
        part = ([("n", NUMBER)], NUMBER, [("try", [("toss", var("n"))], "x", [("if", ("less", var("x"), num(3)), [],
                                                                            [("toss", num(9))])])], num(1))
        told = (read_makes(), [([], NUMBER, [("try", [("say", ("call", 1, [num(2)])), ("say", ("call", 1, [num(3)]))],
                                              "x", [("say", var("x"))])], num(0)), part])
        self.assert_run(told, [], 9, (("gave", 0), [1, 9], 7))

    def test_a_fault_through_several_calls(self):
        told = (read_makes(), [([], NUMBER, [("try", [("drop", ("call", 1, []))], "x", [("give", var("x"))])], num(0)),
                               ([], NUMBER, [("say", num(1))], ("add", ("call", 2, []), num(5))),
                               ([], NUMBER, [("while", num(1), [("say", num(2)), ("toss", num(3))])], num(0))])
        self.assert_run(told, [], 9, (("gave", 3), [1, 2], 7))

    def test_changes_done_stay(self):
        body = [("let", "i", NUMBER, num(1)), ("let", "r", whole(1), pair()),
                ("try", [("set", "i", num(2)), ("put", 1, 0, var("r"), num(6)), ("toss", num(3)), ("set", "i", num(9))],
                 "x", [("say", var("i")), ("say", first(var("r"))), ("set", "i", num(7))])]
        self.assert_tells(("gave", 7), [2, 6], body, var("i"))
        # Also those done in a call.
        told = (read_makes(), [([], NUMBER, [("let", "r", whole(1), pair()),
                                             ("try", [("drop", ("call", 1, [var("r")]))], "x", [])], first(var("r"))),
                               ([("r", whole(1))], NUMBER, [("put", 1, 0, var("r"), num(3)), ("toss", num(1))],
                                num(0))])
        self.assert_run(told, [], 5, (("gave", 3), [], 4))
        # What was not done is not done: the fault is ahead of the set and of the put.
        body = [("let", "i", NUMBER, num(1)), ("let", "r", whole(1), pair()),
                ("try", [("set", "i", ("div", num(2), num(0)))], "x", []),
                ("try", [("put", 1, 0, var("r"), toss(4))], "x", []), ("say", first(var("r")))]
        self.assert_tells(("gave", 1), [4], body, var("i"), 1)

    def test_weary_is_not_caught(self):
        self.assert_run(program([("try", [("while", num(1), [])], "x", [("say", num(1))])]), [], 5, (("weary",), [], 0))
        self.assert_run(program([("try", [("drop", echo(1))], "x", [("say", num(1))])]), [], 0, (("weary",), [], 0))

    def test_a_fault_each_turn(self):
        body = [("let", "i", NUMBER, num(3000)),
                ("while", var("i"), [("set", "i", one_less("i")),
                                     ("try", [("drop", toss(5))], "x", [("try", [("toss", var("x"))], "y", [])])])]
        self.assert_run(program(body), [], 6000, (("gave", 0), [], 0))


class TestRecursion(ReadingCase):
    def test_a_part_that_calls_itself(self):
        # As often as Fibonacci's numbers are told.
        part = ([("n", NUMBER)], NUMBER,
                [("if", ("less", var("n"), num(2)), [("give", var("n"))], [])],
                ("add", ("call", 0, [one_less("n")]), ("call", 0, [("sub", var("n"), num(2))])))
        for n, w, calls in ((0, 0, 0), (1, 1, 0), (2, 1, 2), (7, 13, 40), (12, 144, 464)):
            self.assert_run((read_makes(), [part]), [n], 464, (("gave", w), [], 464 - calls))
        self.assert_run((read_makes(), [part]), [12], 463, (("weary",), [], 0))
        self.assert_run((read_makes(), [part]), [13], 10000, (("fault", 2), [], 9988))

    def test_two_parts_in_turn(self):
        even = ([("n", NUMBER)], NUMBER, [("if", var("n"), [("give", ("call", 1, [one_less("n")]))], [])], num(1))
        odd = ([("n", NUMBER)], NUMBER, [("if", var("n"), [("give", ("call", 0, [one_less("n")]))], [])], num(0))
        told = (read_makes(), [even, odd])
        self.assert_run(told, [6], 9, (("gave", 1), [], 3))
        self.assert_run(told, [7], 9, (("gave", 0), [], 2))
        self.assertEqual(plain_run(told, 1, [7], 9), (("gave", 1), [], 2))

    def test_deep_trees_in_deep_calls(self):
        tree = ("call", 0, [one_less("n")])
        for k in range(5):
            tree = ("either", num(1), tree, num(0))
        body = [("say", var("n")), ("if", var("n"), [("give", tree)], [])]
        self.assert_run((read_makes(), [([("n", NUMBER)], NUMBER, body, num(0))]), [11], 50,
                        (("gave", 0), list(range(11, -1, -1)), 39))
        nest = [("give", ("call", 0, [one_less("n")]))]
        for k in range(5):
            nest = [(("if", var("n"), nest, []), ("while", var("n"), nest), ("try", nest, "y", []),
                     ("kin", 3, "x", lone(), nest, []))[k % 4]]
        self.assert_run((read_makes(), [([("n", NUMBER)], NUMBER, nest, num(0))]), [11], 50, (("gave", 0), [], 39))


class TestStart(ReadingCase):
    def told(self):
        return (read_makes(), [([("a", NUMBER), ("b", NUMBER)], NUMBER, [], ("sub", var("a"), var("b"))),
                               ([("a", whole(1))], NUMBER, [], num(0)), ([], whole(3), [], lone()),
                               ([], NUMBER, [], num(7))])

    def assert_no_door(self, told, part, inputs):
        before = copy.deepcopy((told, inputs))
        with self.assertRaises(NoDoor) as caught:
            plain_run(told, part, inputs, 10)
        self.assertIsInstance(caught.exception, WardenError)
        self.assertEqual((told, inputs), before)

    def test_doors(self):
        self.assertEqual(plain_run(self.told(), 0, [5, 3], 10), (("gave", 2), [], 10))
        self.assertEqual(plain_run(self.told(), 3, [], 0), (("gave", 7), [], 0))
        self.assertEqual(plain_run(self.told(), 3, [], 10000), (("gave", 7), [], 10000))

    def test_no_doors(self):
        for part in (-1, -4, 4, 8, 10 ** 20, -10 ** 20):
            self.assert_no_door(self.told(), part, [])
            self.assert_no_door(self.told(), part, [5, 3])
        self.assert_no_door(self.told(), 1, [5])
        self.assert_no_door(self.told(), 1, [])
        self.assert_no_door(self.told(), 2, [])

    def test_inputs(self):
        for inputs in ([], [1], [1, 2, 3]):
            self.assert_no_door(self.told(), 0, inputs)
        self.assert_no_door(self.told(), 3, [0])

    def test_twenty_takes(self):
        names = "abcdefghijklmnopqrst"
        tree = var("a")
        for name in names[1:7]:
            tree = ("sub", tree, var(name))
        told = program([], ("add", tree, var("t")), names)
        self.assert_run(told, list(range(20)), 5, (("gave", 0 - sum(range(7)) + 19), [], 5))


class TestLists(unittest.TestCase):
    def test_what_is_told_stays(self):
        told = program([("say", num(1)), ("say", var("a"))], num(0), ("a",))
        inputs = [5]
        answer = plain_run(told, 0, inputs, 9)
        inputs[0] = 6
        told[1][0][2].clear()
        told[1].clear()
        self.assertEqual(answer, (("gave", 0), [1, 5], 9))

    def test_each_list_is_new(self):
        told = program([("say", num(1))])
        plain_run(told, 0, [], 9)[1].append(4)
        one, other = plain_run(told, 0, [], 9), plain_run(told, 0, [], 9)
        self.assertEqual(one, (("gave", 0), [1], 9))
        self.assertIsNot(one[1], other[1])

    def test_a_record_of_one_run_is_not_in_another(self):
        told = program([("let", "r", whole(1), pair()), ("say", first(var("r"))), ("put", 1, 0, var("r"), num(9))])
        self.assertEqual(plain_run(told, 0, [], 9), plain_run(told, 0, [], 9))


if __name__ == "__main__":
    unittest.main()
