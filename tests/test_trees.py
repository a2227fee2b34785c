import copy
import unittest

from samples import ANY, NUMBER, num, tree_makes, var, whole
from stackwarden.errors import NoTree, WardenError
from stackwarden.rows import RECKONING
from stackwarden.trees import check_program

LONE = ("new", 3, [])
# A record of make 1 from the take p, which is one.
PAIR = ("new", 1, [num(), var("p")])
TRIPLE = ("new", 2, [num(), var("p"), LONE])


# A program whose first part has the variables n (a number), p (whole 1), t (whole 2), e (whole 3), o (whole 0).
def program(body=(), answer=num(), gives=NUMBER, parts=(), makes=None):
    takes = [("n", NUMBER), ("p", whole(1)), ("t", whole(2)), ("e", whole(3)), ("o", whole(0))]
    return (tree_makes() if makes is None else makes, [(takes, gives, list(body), answer)] + list(parts))


# Parts 1 to 3: takes nothing and gives whole 2; takes a number and whole 1 and gives a number; takes whole 0.
def others():
    return [([], whole(2), [("toss", num())], ("call", 1, [])),
            ([("a", NUMBER), ("b", whole(1))], NUMBER, [], var("a")),
            ([("a", whole(0))], whole(3), [], LONE)]


class TreeCase(unittest.TestCase):
    def assert_right(self, told):
        before = copy.deepcopy(told)
        self.assertIsNone(check_program(told))
        self.assertEqual(told, before)

    def assert_wrong(self, told, part):
        before = copy.deepcopy(told)
        with self.assertRaises(NoTree) as caught:
            check_program(told)
        self.assertIsInstance(caught.exception, WardenError)
        self.assertEqual(caught.exception.part, part)
        self.assertEqual(told, before)

    # The same body and answer in the first and in the last part.
    def assert_body(self, right, body, answer=num(), gives=NUMBER):
        first = program(body, answer, gives, others())
        last = (first[0], [([], NUMBER, [], num())] + others() + [first[1][0]])
        if right:
            self.assert_right(first)
            self.assert_right(last)
        else:
            self.assert_wrong(first, 0)
            self.assert_wrong(last, 4)

    # An expression in a drop, and as the answer of its kind.
    def assert_kind(self, tree, kind):
        self.assert_body(True, [("drop", tree)])
        self.assert_body(True, [], tree, kind)
        if kind != NUMBER:
            self.assert_body(False, [], tree, NUMBER)
            self.assert_body(True, [], tree, whole(0))
        for c in range(4):
            under = {(1, 1), (2, 1), (2, 2), (3, 3)} | {(one, 0) for one in range(4)}
            self.assert_body(kind != NUMBER and (kind[1], c) in under, [], tree, whole(c))

    def assert_no_kind(self, tree):
        self.assert_body(False, [("drop", tree)])
        self.assert_body(False, [], tree)


class TestMakes(TreeCase):
    def assert_makes(self, makes, right):
        told = (makes, [([], NUMBER, [], num())])
        if right:
            self.assert_right(told)
        else:
            self.assert_wrong(told, None)

    def test_right(self):
        self.assert_makes([(None, [])], True)
        self.assert_makes(tree_makes(), True)
        self.assert_makes([(None, [])] + [(c, []) for c in range(7)], True)
        self.assert_makes([(None, []), (0, [NUMBER] * 6)], True)
        self.assert_makes([(None, []), (0, [NUMBER] * 3), (1, [whole(7)] * 3)] + [(0, [])] * 5, True)
        self.assert_makes([(None, []), (0, [whole(1), whole(2), whole(0)]), (0, [])], True)

    def test_how_many(self):
        self.assert_makes([], False)
        self.assert_makes([(None, [])] + [(0, [])] * 8, False)

    def test_make_nought(self):
        for make in ((0, []), (1, []), (-1, []), (None, [NUMBER]), (0, [NUMBER])):
            self.assert_makes([make], False)
            self.assert_makes([make, (0, [])], False)

    def test_elders(self):
        for elder in (None, 1, 2, 3, -1, 10 ** 20, -10 ** 20):
            self.assert_makes([(None, []), (elder, []), (0, [])], False)
        for elder in (None, 2, -1):
            self.assert_makes([(None, []), (0, []), (elder, [])], False)

    def test_fields(self):
        self.assert_makes([(None, []), (0, [NUMBER] * 7)], False)
        self.assert_makes([(None, []), (0, [NUMBER] * 3), (1, [NUMBER] * 4)], False)
        for kind in (ANY, ("raw", 0, 0), ("raw", 1, 0), ("raw", 1, 1), ("raw", 9, 0), whole(2), whole(-1),
                     whole(10 ** 20)):
            self.assert_makes([(None, []), (0, [kind])], False)
            self.assert_makes([(None, []), (0, [NUMBER, kind])], False)


class TestHeads(TreeCase):
    def assert_takes(self, takes, right):
        part = (takes, NUMBER, [], num())
        if right:
            self.assert_right((tree_makes(), [part]))
        else:
            self.assert_wrong((tree_makes(), [part]), 0)
            self.assert_wrong((tree_makes(), [([], NUMBER, [], num())] * 7 + [part]), 7)

    def test_right(self):
        self.assert_takes([], True)
        self.assert_takes([("a", NUMBER)], True)
        self.assert_takes([("abcdefgh", NUMBER), ("z", whole(3)), ("zz", whole(0))], True)
        self.assert_takes([(letter, NUMBER) for letter in "abcdefghijklmnopqrst"], True)
        self.assert_takes([("call", NUMBER), ("num", NUMBER), ("thing", NUMBER)], True)

    def test_kinds(self):
        for kind in (ANY, ("raw", 0, 0), ("raw", 1, 3), ("raw", -1, 0), whole(4), whole(-1), whole(10 ** 20)):
            self.assert_takes([("a", kind)], False)
            self.assert_takes([("a", NUMBER), ("b", kind)], False)
            for told in (others(), []):
                self.assert_wrong((tree_makes(), told + [([], kind, [("toss", num())], num())]), len(told))
                self.assert_wrong((tree_makes(), [([], kind, [], num())] + told), 0)

    def test_gives(self):
        for kind, answer in ((NUMBER, num()), (whole(0), LONE), (whole(3), LONE)):
            self.assert_right((tree_makes(), [([], kind, [], answer)]))

    def test_names(self):
        for name in ("", "abcdefghi", "A", "aB", "a1", "1", " ", "a b", "a ", "_", "a_b", "a-b", "\u00e9", "a\n"):
            self.assert_takes([(name, NUMBER)], False)
            self.assert_takes([("a", NUMBER), (name, whole(1))], False)

    def test_named_like_another(self):
        self.assert_takes([("a", NUMBER), ("a", NUMBER)], False)
        self.assert_takes([("a", NUMBER), ("b", NUMBER), ("a", whole(1))], False)
        self.assert_takes([("b", NUMBER), ("aa", NUMBER), ("aa", NUMBER)], False)

    def test_parts_have_names_of_their_own(self):
        part = ([("a", NUMBER)], NUMBER, [("let", "b", NUMBER, var("a"))], var("b"))
        self.assert_right((tree_makes(), [part] * 8))


class TestExpressions(TreeCase):
    def test_num(self):
        for w in (0, 1, -1, 2147483647, -2147483648):
            self.assert_kind(num(w), NUMBER)
        for w in (2147483648, -2147483649, 10 ** 20, -10 ** 20):
            self.assert_no_kind(num(w))
            self.assert_no_kind(("add", num(), num(w)))
            self.assert_body(False, [("if", num(0), [("while", num(0), [("say", num(w))])], [])])

    def test_var(self):
        self.assert_kind(var("n"), NUMBER)
        self.assert_kind(var("p"), whole(1))
        self.assert_kind(var("t"), whole(2))
        self.assert_kind(var("e"), whole(3))
        self.assert_kind(var("o"), whole(0))
        for name in ("x", "", "N", "nn", "abcdefghi"):
            self.assert_no_kind(var(name))

    def test_signs(self):
        for sign in RECKONING:
            self.assert_kind((sign, num(), var("n")), NUMBER)
            self.assert_kind((sign, (sign, num(), num()), (sign, num(), num())), NUMBER)
            self.assert_no_kind((sign, var("p"), num()))
            self.assert_no_kind((sign, num(), var("o")))
            self.assert_no_kind((sign, var("p"), var("p")))

    def test_new(self):
        self.assert_kind(LONE, whole(3))
        self.assert_kind(PAIR, whole(1))
        self.assert_kind(TRIPLE, whole(2))
        self.assert_kind(("new", 0, []), whole(0))
        self.assert_kind(("new", 1, [num(), var("t")]), whole(1))
        self.assert_kind(("new", 2, [num(), TRIPLE, var("e")]), whole(2))
        for es in ([], [num()], [num(), var("p"), num()], [var("p"), num()], [num(), num()], [num(), var("o")],
                   [num(), var("e")], [var("e"), var("p")], [num(), var("p"), LONE]):
            self.assert_no_kind(("new", 1, es))
        for es in ([num(), var("p")], [num(), var("p"), LONE, LONE], [num(), var("p"), var("o")],
                   [LONE, num(), var("p")], [num(), var("p"), var("t")]):
            self.assert_no_kind(("new", 2, es))
        for c in (4, -1, 10 ** 20):
            self.assert_no_kind(("new", c, []))
        self.assert_no_kind(("new", 3, [num()]))

    def test_get(self):
        self.assert_kind(("get", 1, 0, var("p")), NUMBER)
        self.assert_kind(("get", 1, 1, var("p")), whole(1))
        self.assert_kind(("get", 1, 1, var("t")), whole(1))
        self.assert_kind(("get", 2, 0, var("t")), NUMBER)
        self.assert_kind(("get", 2, 1, var("t")), whole(1))
        self.assert_kind(("get", 2, 2, var("t")), whole(3))
        for c, f, e in ((1, 2, "p"), (1, 2, "t"), (1, -1, "p"), (2, 3, "t"), (3, 0, "e"), (0, 0, "o"), (2, 2, "p"),
                        (2, 0, "p"), (1, 0, "o"), (1, 0, "e"), (1, 0, "n"), (4, 0, "p"), (-1, 0, "p"),
                        (1, 10 ** 20, "p"),
                        (10 ** 20, 0, "p"), (1, 0, "x")):
            self.assert_no_kind(("get", c, f, var(e)))

    def test_call(self):
        parts = [([], NUMBER, [], num())] + others()
        body = []
        for tree, kind in ((("call", 1, []), whole(2)), (("call", 2, [num(), var("p")]), NUMBER),
                           (("call", 2, [num(), var("t")]), NUMBER), (("call", 3, [var("o")]), whole(3)),
                           (("call", 3, [var("e")]), whole(3)), (("call", 0, []), NUMBER)):
            body.append(("drop", tree))
            self.assert_right((tree_makes(), parts + program([("let", "x", kind, tree)])[1]))
            self.assert_wrong((tree_makes(), parts + program([("let", "x", whole(1) if kind == NUMBER else NUMBER,
                                                               tree)])[1]), 4)
        self.assert_right((tree_makes(), parts + program(body)[1]))
        for tree in (("call", 1, [num()]), ("call", 2, [num()]), ("call", 2, []), ("call", 2, [num(), var("p"), num()]),
                     ("call", 2, [var("p"), num()]), ("call", 2, [num(), var("o")]), ("call", 2, [num(), var("e")]),
                     ("call", 3, [num()]), ("call", 3, []), ("call", 5, []), ("call", -1, []), ("call", 10 ** 20, []),
                     ("call", 0, [num()])):
            self.assert_wrong((tree_makes(), parts + program([("drop", tree)])[1]), 4)
        # Numbers below 0 do not count from behind.
        for p in (-1, -2):
            self.assert_wrong((tree_makes(), [([], NUMBER, [], num()), ([], NUMBER, [], ("call", p, []))]), 1)
        # Its own part, and one behind it.
        self.assert_right((tree_makes(), [([("a", NUMBER)], NUMBER, [], ("call", 0, [("call", 1, [])])),
                                          ([], NUMBER, [], num())]))

    def test_either(self):
        for one, other, kind in (("n", "n", NUMBER), ("p", "p", whole(1)), ("p", "t", whole(1)), ("t", "p", whole(1)),
                                 ("t", "e", whole(0)), ("o", "t", whole(0)), ("t", "t", whole(2))):
            self.assert_kind(("either", num(), var(one), var(other)), kind)
        for one, other in (("n", "p"), ("o", "n"), ("t", "n")):
            self.assert_no_kind(("either", num(), var(one), var(other)))
        self.assert_no_kind(("either", var("p"), num(), num()))
        self.assert_no_kind(("either", var("x"), num(), num()))
        self.assert_no_kind(("either", num(), var("x"), num()))
        self.assert_no_kind(("either", num(), num(), var("x")))
        self.assert_no_kind(("either", num(), num(2147483648), num()))

    def test_what_is_wrong_within(self):
        wrong = var("x")
        for tree in (("add", wrong, num()), ("same", num(), wrong), ("new", 1, [num(), wrong]), ("get", 1, 0, wrong),
                     ("call", 2, [num(), wrong]), ("either", num(), wrong, wrong)):
            self.assert_no_kind(tree)
            self.assert_no_kind(("sub", num(), ("mul", tree, num())))


class TestStatements(TreeCase):
    def test_let(self):
        for kind, e in ((NUMBER, num()), (whole(1), var("p")), (whole(1), var("t")), (whole(0), var("t")),
                        (whole(3), LONE)):
            for name in ("x", "abcdefgh"):
                self.assert_body(True, [("let", name, kind, e), ("drop", var(name))])
        self.assert_body(True, [("let", "x", NUMBER, num()), ("let", "y", NUMBER, var("x"))], var("y"))
        for kind, e in ((NUMBER, var("p")), (whole(1), num()), (whole(2), var("p")), (whole(3), var("p")),
                        (whole(1), var("o"))):
            self.assert_body(False, [("let", "x", kind, e)])
        for kind in (ANY, ("raw", 3, 0), ("raw", 1, 3), whole(4), whole(-1)):
            for e in (num(), LONE, var("p")):
                self.assert_body(False, [("let", "x", kind, e)])
        for name in ("", "abcdefghi", "X", "x1", " ", "x y", "n", "p", "o", "\u00e9"):
            self.assert_body(False, [("let", name, NUMBER, num())])
        self.assert_body(False, [("let", "x", NUMBER, num()), ("let", "x", NUMBER, num())])
        self.assert_body(False, [("let", "x", NUMBER, num()), ("let", "x", whole(3), LONE)])

    def test_where_a_let_is_there(self):
        let = ("let", "x", NUMBER, num())
        use = ("say", var("x"))
        self.assert_body(True, [let, use, ("if", var("x"), [use], [use]), ("while", var("x"), [use])], var("x"))
        self.assert_body(False, [use, let])
        self.assert_body(False, [("let", "x", NUMBER, var("x"))])
        self.assert_body(False, [("let", "x", NUMBER, ("add", num(), var("x")))])
        for body in ([("if", num(), [let, use], [])], [("if", num(), [], [let, use])], [("while", num(), [let, use])],
                     [("kin", 1, "y", var("o"), [let, use], [])], [("kin", 1, "y", var("o"), [], [let, use])],
                     [("try", [let, use], "y", [])], [("try", [], "y", [let, use])]):
            self.assert_body(True, body)
            # Behind its list it is gone, and may be told again.
            self.assert_body(False, body + [use])
            self.assert_body(False, body, var("x"))
            self.assert_body(False, body + [("set", "x", num())])
            self.assert_body(True, body + [let, use], var("x"))
            self.assert_body(True, body + body + [("let", "x", whole(3), LONE)])
            # Ahead of it and around it, it is there.
            self.assert_body(False, [let] + body)
        for body in ([("if", num(), [let], [use])], [("try", [let], "y", [use])], [("if", var("x"), [let], [])],
                     [("kin", 1, "y", var("o"), [let], [use])], [("kin", 1, "y", var("o"), [use], [let])],
                     [("while", var("x"), [let])]):
            self.assert_body(False, body)
        self.assert_body(True, [("if", num(), [let, use], [let, use]), ("try", [let, use], "y", [let, use]),
                                ("kin", 1, "y", var("o"), [let, use], [let, use]), ("while", num(), [let])])

    def test_set(self):
        for name, e in (("n", num()), ("p", var("p")), ("p", var("t")), ("o", LONE), ("e", LONE), ("t", TRIPLE)):
            self.assert_body(True, [("set", name, e)])
        for name, e in (("n", var("p")), ("p", num()), ("t", var("p")), ("p", var("o")), ("x", num()), ("", num()),
                        ("n", var("x")), ("e", var("t"))):
            self.assert_body(False, [("set", name, e)])
        self.assert_body(True, [("let", "x", whole(0), var("t")), ("set", "x", LONE)])
        # What it was told as counts, not what was put there.
        self.assert_body(False, [("let", "x", whole(0), var("t")), ("drop", ("get", 1, 0, var("x")))])

    def test_put(self):
        for c, f, e, v in ((1, 0, "p", num()), (1, 1, "p", var("p")), (1, 1, "t", var("t")), (2, 2, "t", LONE),
                           (2, 0, "t", num())):
            self.assert_body(True, [("put", c, f, var(e), v)])
        for c, f, e, v in ((1, 0, "p", var("p")), (1, 1, "p", num()), (1, 1, "p", var("o")), (2, 0, "p", num()),
                           (1, 2, "p", num()), (1, 2, "t", LONE), (1, -1, "p", num()), (3, 0, "e", num()),
                           (4, 0, "p", num()), (-1, 0, "p", num()), (1, 0, "o", num()), (1, 0, "n", num()),
                           (1, 0, "x", num()), (1, 0, "p", var("x")), (0, 0, "o", num())):
            self.assert_body(False, [("put", c, f, var(e), v)])

    def test_say_and_toss(self):
        for word in ("say", "toss"):
            self.assert_body(True, [(word, num()), (word, ("add", var("n"), num()))])
            for name in ("p", "o", "x"):
                self.assert_body(False, [(word, var(name))])

    def test_drop(self):
        for name in ("n", "p", "t", "e", "o"):
            self.assert_body(True, [("drop", var(name))])
        self.assert_body(False, [("drop", var("x"))])

    def test_give(self):
        for kind, e in ((NUMBER, num()), (whole(1), var("p")), (whole(1), var("t")), (whole(0), var("e"))):
            self.assert_body(True, [("give", e)], e, kind)
            nested = ("try", [("if", num(), [("give", e)], [])], "x", [("give", e)])
            self.assert_body(True, [("while", num(), [nested])], e, kind)
        for kind, e in ((NUMBER, var("p")), (whole(1), num()), (whole(2), var("p")), (whole(1), var("o")),
                        (NUMBER, var("x"))):
            right = num() if kind == NUMBER else var("t")
            self.assert_body(True, [], right, kind)
            self.assert_body(False, [("give", e)], right, kind)

    def test_answer(self):
        for kind, e in ((NUMBER, var("p")), (whole(1), num()), (whole(2), var("p")), (whole(1), var("o")),
                        (NUMBER, var("x"))):
            self.assert_body(False, [], e, kind)
        self.assert_body(True, [("let", "x", whole(2), var("t"))], var("x"), whole(1))
        self.assert_body(False, [("let", "x", whole(1), var("t"))], var("x"), whole(2))

    def test_if_and_while(self):
        say = [("say", num())]
        wrong = [("say", var("p"))]
        self.assert_body(True, [("if", num(), [], []), ("if", var("n"), say, say), ("while", var("n"), say),
                                ("while", num(), [])])
        for name in ("p", "o", "x"):
            self.assert_body(False, [("if", var(name), [], [])])
            self.assert_body(False, [("while", var(name), [])])
        for body in ([("if", num(), wrong, [])], [("if", num(), [], wrong)], [("if", num(), say + wrong, say)],
                     [("while", num(), wrong)], [("while", num(), say), ("while", num(), say + wrong)]):
            self.assert_body(False, body)

    def test_kin(self):
        def kin(c, x, e, one=(), other=()):
            return ("kin", c, x, e, list(one), list(other))

        for c, kind in enumerate((whole(0), whole(1), whole(2), whole(3))):
            for name in ("o", "p", "t", "e"):
                self.assert_body(True, [kin(c, "x", var(name))])
            self.assert_body(True, [kin(c, "x", var("o"), [("let", "y", kind, var("x"))])])
        self.assert_body(True, [kin(1, "x", var("o"), [("say", ("get", 1, 0, var("x"))), ("set", "x", var("t"))])])
        self.assert_body(False, [kin(1, "x", var("o"), [("drop", ("get", 2, 0, var("x")))])])
        self.assert_body(False, [kin(1, "x", var("o"), [("set", "x", var("o"))])])
        # It is whole c, even where what it comes from is more.
        self.assert_body(False, [kin(0, "x", var("t"), [("drop", ("get", 1, 0, var("x")))])])
        for e in (num(), var("n"), var("x"), ("get", 1, 0, var("p"))):
            self.assert_body(False, [kin(1, "x", e)])
        for c in (4, -1, 10 ** 20):
            self.assert_body(False, [kin(c, "x", var("o"))])
        for name in ("n", "o", "", "X", "abcdefghi", "x1"):
            self.assert_body(False, [kin(1, name, var("o"))])
        use = [("drop", var("x"))]
        self.assert_body(True, [kin(1, "x", var("o"), use)])
        self.assert_body(False, [kin(1, "x", var("o"), [], use)])
        self.assert_body(False, [kin(1, "x", var("o"))] + use)
        self.assert_body(False, [kin(1, "x", var("o"))], ("get", 1, 0, var("x")))
        self.assert_body(False, [kin(1, "x", var("o"), [("let", "x", NUMBER, num())])])
        self.assert_body(True, [kin(1, "x", var("o"), [], [("let", "x", NUMBER, num())]), kin(1, "x", var("o"))])
        self.assert_body(False, [("let", "x", NUMBER, num()), kin(1, "x", var("o"))])
        self.assert_body(True, [kin(1, "x", var("o")), ("let", "x", NUMBER, num())])
        self.assert_body(False, [kin(1, "x", var("o"), [kin(1, "x", var("o"))])])
        self.assert_body(True, [kin(1, "x", var("o"), [kin(1, "y", var("x"), [("set", "x", var("y"))])],
                                    [kin(1, "x", var("o"))])])
        self.assert_body(False, [kin(1, "x", var("o"), [("say", var("p"))])])
        self.assert_body(False, [kin(1, "x", var("o"), [], [("say", var("p"))])])

    def test_try(self):
        use = [("say", var("x"))]
        self.assert_body(True, [("try", [], "x", [])])
        self.assert_body(True, [("try", [("toss", num())], "x", use + [("set", "x", num())])])
        self.assert_body(False, [("try", use, "x", [])])
        self.assert_body(False, [("try", [], "x", [])] + use)
        self.assert_body(False, [("try", [], "x", [])], var("x"))
        self.assert_body(False, [("try", [], "x", [("set", "x", LONE)])])
        self.assert_body(False, [("try", [], "x", [("drop", ("get", 1, 0, var("x")))])])
        for name in ("n", "o", "", "X", "abcdefghi", "x1"):
            self.assert_body(False, [("try", [], name, [])])
        self.assert_body(True, [("try", [("let", "x", whole(3), LONE)], "x", use)])
        self.assert_body(False, [("try", [], "x", [("let", "x", NUMBER, num())])])
        self.assert_body(False, [("let", "x", NUMBER, num()), ("try", [], "x", [])])
        self.assert_body(True, [("try", [("try", [], "x", use)], "x", use), ("let", "x", NUMBER, num())])
        self.assert_body(False, [("try", [], "x", [("try", [], "x", [])])])
        self.assert_body(False, [("try", [("say", var("p"))], "x", [])])
        self.assert_body(False, [("try", [], "x", [("say", var("p"))])])


class TestBounds(TreeCase):
    def test_eight_deep(self):
        tree = num()
        for k in range(7):
            tree = ("add", tree, num())
        self.assert_body(True, [], tree)
        self.assert_body(False, [], put_within(tree, var("x")))
        body = [("say", num())]
        for k in range(6):
            body = [(("if", num(), body, []), ("while", num(), body), ("try", [], "abcdefgh"[k], body),
                     ("kin", 0, "ijklmxyz"[k], var("o"), body, []))[k % 4]]
        self.assert_body(True, body)

    def test_twenty_things(self):
        self.assert_body(True, [("say", num())] * 20)
        self.assert_body(False, [("say", num())] * 19 + [("say", var("p"))])
        self.assert_body(True, [("let", letter * 2, NUMBER, num()) for letter in "abcdefghijklmnopqrst"], var("tt"))
        takes = [(letter, NUMBER) for letter in "abcdefghijklmnopqrst"]
        call = ("call", 0, [num()] * 20)
        self.assert_right((tree_makes(), [(takes, NUMBER, [("if", num(), [("drop", call)] * 20, [])], call)]))
        self.assert_wrong((tree_makes(), [(takes, NUMBER, [], ("call", 0, [num()] * 19))]), 0)
        self.assert_right(([(None, [])] + [(0, [NUMBER] * 6)],
                           [([], whole(1), [], ("new", 1, [num()] * 6))]))

    def test_a_thousand_things(self):
        body = [("if", num(), [("say", num())] * 20, [("say", num())] * 20)] * 5
        self.assert_right((tree_makes(), [([], NUMBER, body, num())] * 2))

    def test_eight_parts(self):
        parts = [([("a", NUMBER)], NUMBER, [], ("call", 7 - k, [var("a")])) for k in range(8)]
        self.assert_right((tree_makes(), parts))
        for k in range(8):
            wrong = list(parts)
            wrong[k] = ([], NUMBER, [], num())
            self.assert_wrong((tree_makes(), wrong), 7 - k)


def put_within(tree, leaf):
    return leaf if tree[0] == "num" else (tree[0], put_within(tree[1], leaf), tree[2])


class TestOrder(TreeCase):
    GOOD = ([], NUMBER, [], num())
    TAKES = ([("A", NUMBER)], NUMBER, [], num())
    GIVES = ([], ANY, [], num())
    BODY = ([], NUMBER, [("say", var("x"))], num())
    ANSWER = ([], NUMBER, [], var("x"))

    def test_makes_ahead_of_all(self):
        for parts in ([self.TAKES], [self.GIVES], [self.BODY], [self.GOOD], [self.ANSWER, self.TAKES]):
            self.assert_wrong(([(None, []), (1, [])], parts), None)
            self.assert_wrong(([(None, []), (0, [ANY])], parts), None)

    def test_heads_ahead_of_bodies(self):
        for wrong in (self.BODY, self.ANSWER):
            for head in (self.TAKES, self.GIVES):
                self.assert_wrong((tree_makes(), [wrong, head]), 1)
                self.assert_wrong((tree_makes(), [self.GOOD, head, wrong]), 1)
                self.assert_wrong((tree_makes(), [wrong, self.GOOD, self.GOOD, head, self.TAKES]), 3)

    def test_the_first_of_each(self):
        self.assert_wrong((tree_makes(), [self.GOOD, self.GIVES, self.TAKES]), 1)
        self.assert_wrong((tree_makes(), [self.GOOD, self.TAKES, self.GIVES]), 1)
        self.assert_wrong((tree_makes(), [self.GOOD, self.ANSWER, self.BODY]), 1)
        self.assert_wrong((tree_makes(), [self.GOOD, self.GOOD, self.BODY, self.ANSWER]), 2)


if __name__ == "__main__":
    unittest.main()
