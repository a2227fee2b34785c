"""The promise of the whole, over many books: what is let by never looks, and both machines keep in step."""

import unittest

from samples import (CASES, NUMBER, BookMaker, bare_frames, bare_heap, case_book, door, doors, explored,
                     run_makes)
from stackwarden.books import check_book
from stackwarden.errors import NoPass
from stackwarden.plain import Plain
from stackwarden.runs import run, run_watched
from stackwarden.texts import read
from stackwarden.values import has_kind
from stackwarden.warden import warded
from stackwarden.watched import Watched

INPUTS = ((0, 0, 0), (1, 2, 3), (-5, 0, 2147483647))


def made_books():
    return [BookMaker(seed, (0.0, 0.002, 0.01)[seed % 3]).made() for seed in range(5000, 5400)]


def stands_or_none(book):
    try:
        return warded(book)
    except NoPass:
        return None


# Makes a list of the numbers from 1 to n, one record each, then walks it, says each, and gives their sum.
LIST = """
make 1
begin 1
store 1
load 0      # 3: till n is 0
zero 17
make 2
load 0
fill 2 0
load 1
fill 2 1
begin 2
store 1
load 0
push 1
sub
store 0
jump 3
push 0      # 17
store 2
load 1      # 19: till the list ends
kin 2 24
drop
load 2
give
dup         # 24
get 2 0
dup
say
load 2
add
store 2
get 2 1
store 1
jump 19
"""

# Adds n to what it gives for n - 1; a fault of its call it says and gives.
SUM = """
load 0
zero 9
load 0
push -1
add
call 1
load 0
add
give
push 0      # 9
give
dup         # 11
say
give
"""


def list_book():
    makes = [(None, []), (0, []), (0, [NUMBER, ("whole", 0)])]
    return (makes, [([NUMBER], NUMBER, 3, 3, read(LIST), [])])


def sum_book():
    return (run_makes(), [door([("load", 0), ("call", 1), ("give",)], takes=1),
                          ([NUMBER], NUMBER, 1, 2, read(SUM), [(5, 6, 11)])])


class TestLetBy(unittest.TestCase):
    def assert_in_step(self, book, stands, part, inputs, budget):
        plain = Plain(book, part, inputs, budget)
        watched = Watched(book, part, inputs, budget)
        for k in range(400):
            self.assertEqual(plain.told(), watched.told())
            if watched.told()[0] is not None:
                self.assertIn(watched.told()[0][0], ("gave", "fault", "weary"))
                return
            self.assertEqual(plain.frames(), bare_frames(watched.frames()))
            self.assertEqual(plain.heap(), bare_heap(watched.heap()))
            self.assert_as_told(book, stands, watched)
            plain.step()
            watched.step()

    # What stands there has the kinds that the warden tells of the place.
    def assert_as_told(self, book, stands, watched):
        part, at, boxes, stack = watched.frames()[-1]
        kinds = stands[part][at]
        self.assertEqual((len(boxes), len(stack)), (len(kinds[0]), len(kinds[1])))
        self.assertLessEqual(len(stack), book[1][part][3])
        for value, kind in zip(boxes + stack, kinds[0] + kinds[1]):
            self.assertTrue(has_kind(book[0], watched.heap(), value, kind), (value, kind))

    def assert_promise(self, book, stands):
        for part in doors(book):
            for words in INPUTS:
                inputs = list(words[:len(book[1][part][0])])
                for budget in (0, 1, 12, 60):
                    self.assert_in_step(book, stands, part, inputs, budget)
                for budget in (0, 5, 300):
                    told = run_watched(book, part, inputs, budget)
                    self.assertNotEqual(told[0][0], "look")
                    self.assertEqual(run(book, part, inputs, budget), told)

    def test_books_by_chance(self):
        let_by = 0
        for book in made_books():
            stands = stands_or_none(book)
            if stands is not None:
                let_by += 1
                self.assert_promise(book, stands)
        self.assertGreater(let_by, 200)

    def test_books_by_hand(self):
        for book in [list_book(), sum_book()] + [case_book(told) for told in CASES]:
            check_book(book)
            self.assert_promise(book, warded(book))

    def test_what_books_by_hand_tell(self):
        for tells in (run, run_watched):
            self.assertEqual(tells(list_book(), 0, [0], 9), (("gave", 0), [], 9))
            self.assertEqual(tells(list_book(), 0, [3], 9), (("gave", 6), [1, 2, 3], 3))
            self.assertEqual(tells(list_book(), 0, [3], 6), (("gave", 6), [1, 2, 3], 0))
            self.assertEqual(tells(list_book(), 0, [3], 5), (("weary",), [1, 2, 3], 0))
            self.assertEqual(tells(list_book(), 0, [-1], 500), (("weary",), [], 0))
            self.assertEqual(tells(sum_book(), 0, [4], 9), (("gave", 10), [], 4))
            self.assertEqual(tells(sum_book(), 0, [10], 50), (("gave", 55), [], 39))
            self.assertEqual(tells(sum_book(), 0, [11], 50), (("gave", 67), [2], 38))
            self.assertEqual(tells(sum_book(), 0, [11], 11), (("weary",), [], 0))


class TestNotLetBy(unittest.TestCase):
    def test_a_look_is_foretold(self):
        looks = 0
        refused = 0
        for book in made_books():
            if stands_or_none(book) is not None:
                continue
            refused += 1
            for part in doors(book):
                for words in INPUTS:
                    inputs = list(words[:len(book[1][part][0])])
                    for budget in (0, 3, 100):
                        end = run_watched(book, part, inputs, budget)[0]
                        self.assertIn(end[0], ("gave", "fault", "weary", "look"))
                        if end[0] == "look":
                            looks += 1
                            self.assertIn((end[2], end[3]), explored(book, end[1])[1])
        self.assertGreater(refused, 50)
        self.assertGreater(looks, 50)


if __name__ == "__main__":
    unittest.main()
