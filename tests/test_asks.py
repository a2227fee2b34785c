import copy
import unittest

from samples import ANY, MASKS, NUMBER, some_makes
from stackwarden.asks import asked, catcher, leaves
from stackwarden.kinds import fields_of

END = [("push", 0), ("toss",)]


def some_book():
    return (some_makes(), [
        ([], NUMBER, 0, 1, list(END), []),
        ([NUMBER, ("whole", 3), ANY], ("whole", 5), 3, 2, list(END), []),
        ([("raw", 1, 2)], ANY, 8, 8, list(END), []),
        ([NUMBER], ("raw", 5, 9), 1, 1, list(END), [(0, 1, 0)]),
    ])


# What is asked alike in every book, and how many values are left.
ALIKE = [
    (("push", 5), [], 1), (("load", 3), [], 1), (("store", 3), [ANY], 0), (("dup",), [ANY], 2),
    (("swap",), [ANY, ANY], 2), (("drop",), [ANY], 0),
    (("add",), [NUMBER, NUMBER], 1), (("sub",), [NUMBER, NUMBER], 1), (("mul",), [NUMBER, NUMBER], 1),
    (("div",), [NUMBER, NUMBER], 1), (("rem",), [NUMBER, NUMBER], 1), (("less",), [NUMBER, NUMBER], 1),
    (("same",), [NUMBER, NUMBER], 1),
    (("jump", 0), [], 0), (("zero", 1), [NUMBER], 0), (("kin", 5, 1), [("whole", 0)], 1), (("make", 5), [], 1),
    (("toss",), [NUMBER], 0), (("say",), [NUMBER], 0),
]


class TestAsked(unittest.TestCase):
    def assert_asked(self, row, expected, part=0):
        book = some_book()
        told = asked(book, part, row)
        self.assertIs(type(told), list)
        self.assertEqual(told, expected, row)
        told.append(ANY)
        told[0] = ("whole", 7)
        self.assertEqual(book, some_book())
        self.assertEqual(asked(book, part, row), expected, row)

    def test_alike_in_every_book(self):
        for row, expected, left in ALIKE:
            for part in range(4):
                self.assert_asked(row, expected, part)

    def test_fill_and_put(self):
        for c in range(8):
            for f, field in enumerate(fields_of(some_makes(), c)):
                self.assert_asked(("fill", c, f), [("raw", c, 0), field])
                self.assert_asked(("put", c, f), [("whole", c), field])
                self.assert_asked(("get", c, f), [("whole", c)])

    def test_fields_of_an_elder(self):
        self.assert_asked(("fill", 5, 0), [("raw", 5, 0), NUMBER])
        self.assert_asked(("fill", 5, 1), [("raw", 5, 0), ("whole", 5)])
        self.assert_asked(("fill", 5, 2), [("raw", 5, 0), ANY])
        self.assert_asked(("fill", 5, 5), [("raw", 5, 0), ("whole", 1)])
        self.assert_asked(("put", 6, 0), [("whole", 6), ("raw", 6, 1)])
        self.assert_asked(("put", 4, 1), [("whole", 4), ("whole", 5)])
        self.assert_asked(("get", 4, 1), [("whole", 4)])

    def test_begin(self):
        for c in range(8):
            self.assert_asked(("begin", c), [("raw", c, MASKS[c])])

    def test_call(self):
        for part in range(4):
            self.assert_asked(("call", 0), [], part)
            self.assert_asked(("call", 1), [NUMBER, ("whole", 3), ANY], part)
            self.assert_asked(("call", 2), [("raw", 1, 2)], part)
            self.assert_asked(("call", 3), [NUMBER], part)

    def test_give(self):
        for part, gives in enumerate((NUMBER, ("whole", 5), ANY, ("raw", 5, 9))):
            self.assert_asked(("give",), [gives], part)

    def test_told_for_good(self):
        for row in [row for row, expected, left in ALIKE] + [("call", 1), ("give",), ("fill", 1, 0), ("put", 1, 1),
                                                             ("begin", 1), ("get", 1, 0)]:
            book = some_book()
            told = asked(book, 1, row)
            kept = copy.deepcopy(told)
            book[1][1][0].append(NUMBER)
            book[1][1][0][0] = ANY
            book[1][1] = ([], ANY, 0, 1, [], [])
            book[0][1][1].clear()
            book[0].clear()
            self.assertEqual(told, kept, row)


class TestLeaves(unittest.TestCase):
    def test_each_sign(self):
        others = [(("fill", 1, 0), [], 1), (("begin", 1), [], 1), (("get", 1, 0), [], 1), (("put", 1, 0), [], 0),
                  (("call", 1), [], 1), (("give",), [], 0)]
        self.assertEqual(len(ALIKE + others), 25)
        for row, expected, left in ALIKE + others:
            self.assertEqual(leaves(row), left, row)
            self.assertIs(type(leaves(row)), int)


class TestCatcher(unittest.TestCase):
    def test_none(self):
        self.assertIsNone(catcher([], 0))
        self.assertIsNone(catcher([], 7))

    def test_ends_of_a_stretch(self):
        for at, expected in ((0, None), (1, None), (2, 9), (3, 9), (4, 9), (5, None), (6, None), (9, None)):
            self.assertEqual(catcher([(2, 5, 9)], at), expected)

    def test_one_place_long(self):
        self.assertEqual([catcher([(0, 1, 0)], at) for at in (0, 1)], [0, None])
        self.assertIs(type(catcher([(0, 1, 0)], 0)), int)

    def test_the_first_counts(self):
        stretches = [(4, 6, 10), (2, 8, 11), (0, 99, 12), (4, 5, 13)]
        self.assertEqual([catcher(stretches, at) for at in range(10)], [12, 12, 11, 11, 10, 10, 11, 11, 12, 12])
        self.assertEqual(catcher(list(reversed(stretches)), 4), 13)
        self.assertEqual(catcher(stretches, 99), None)
        self.assertEqual(stretches, [(4, 6, 10), (2, 8, 11), (0, 99, 12), (4, 5, 13)])

    def test_apart(self):
        stretches = [(0, 2, 20), (5, 7, 21)]
        self.assertEqual([catcher(stretches, at) for at in range(8)], [20, 20, None, None, None, 21, 21, None])


if __name__ == "__main__":
    unittest.main()
