import copy
import unittest

from samples import ANY, NUMBER, PAIR, door, run_makes
from stackwarden.errors import NoDoor
from stackwarden.plain import Plain
from stackwarden.runs import run, run_watched
from stackwarden.watched import Watched

COUNT = [("load", 0), ("dup",), ("say",), ("push", 1), ("sub",), ("dup",), ("store", 0), ("zero", 9), ("jump", 0),
         ("load", 0), ("give",)]
CAUGHT = [("push", 12), ("load", 0), ("div",), ("give",), ("push", 100), ("add",), ("give",)]


def some_book():
    return (run_makes(), [
        door(COUNT, takes=1, boxes=1),
        door(CAUGHT, takes=1, stretches=[(2, 3, 4)]),
        door([("load", 0), ("load", 1), ("call", 1), ("sub",), ("call", 0), ("give",)], takes=2),
        door([("load", 0), ("toss",)], takes=1),
        door(PAIR + [("get", 1, 0), ("load", 0), ("mul",), ("give",)], takes=1),
        ([ANY], NUMBER, 1, 1, [("push", 0), ("give",)], []),
        ([], ANY, 1, 1, [("push", 0), ("give",)], []),
    ])


class TestRuns(unittest.TestCase):
    def assert_tells(self, part, inputs, budget, expected):
        for tells in (run, run_watched):
            book = some_book()
            given = list(inputs)
            told = tells(book, part, given, budget)
            self.assertEqual(told, expected, (tells, part, inputs, budget))
            self.assertEqual((type(told), type(told[1])), (tuple, list))
            self.assertEqual((book, given), (some_book(), list(inputs)))

    def test_each_end(self):
        self.assert_tells(0, [3], 100, (("gave", 0), [3, 2, 1], 98))
        self.assert_tells(0, [3], 2, (("gave", 0), [3, 2, 1], 0))
        self.assert_tells(0, [3], 1, (("weary",), [3, 2], 0))
        self.assert_tells(0, [3], 0, (("weary",), [3], 0))
        self.assert_tells(0, [-1], 4, (("weary",), [-1, -2, -3, -4, -5], 0))
        self.assert_tells(1, [5], 0, (("gave", 2), [], 0))
        self.assert_tells(1, [0], 0, (("gave", 101), [], 0))
        self.assert_tells(3, [-9], 10, (("fault", -9), [], 10))
        self.assert_tells(4, [-9], 10, (("gave", -36), [], 10))

    def test_calls(self):
        self.assert_tells(2, [9, 2], 10, (("gave", 0), [3, 2, 1], 6))
        self.assert_tells(2, [103, 0], 10, (("gave", 0), [2, 1], 7))

    def test_many_words_said(self):
        self.assert_tells(0, [10001], 10000, (("gave", 0), list(range(10001, 0, -1)), 0))

    def test_the_same_as_the_machine_tells(self):
        for make, tells in ((Plain, run), (Watched, run_watched)):
            for part, inputs in ((0, [4]), (1, [0]), (2, [9, 2]), (3, [1]), (4, [2])):
                machine = make(some_book(), part, inputs, 9)
                while machine.told()[0] is None:
                    machine.step()
                self.assertEqual(tells(some_book(), part, inputs, 9), machine.told())

    def test_a_look(self):
        book = (run_makes(), [door([("load", 0), ("say",), ("load", 1), ("say",), ("load", 0), ("give",)], takes=1)])
        self.assertEqual(run_watched(book, 0, [4], 9), (("look", 0, 3, "kind"), [4], 9))

    def test_no_door(self):
        for part, inputs in ((5, [1]), (6, []), (-1, [1]), (7, [1]), (10 ** 30, []), (0, []), (0, [1, 2]), (2, [1]),
                             (2, [1, 2, 3]), (3, [])):
            for tells in (run, run_watched):
                book = some_book()
                before = copy.deepcopy((book, inputs))
                with self.assertRaises(NoDoor):
                    tells(book, part, inputs, 9)
                self.assertEqual((book, inputs), before)

    def test_each_run_is_new(self):
        book = some_book()
        for tells in (run, run_watched):
            told = tells(book, 0, [3], 9)
            told[1].append(7)
            self.assertEqual(tells(book, 0, [3], 9), (("gave", 0), [3, 2, 1], 7))


if __name__ == "__main__":
    unittest.main()
