import copy
import unittest

from samples import ANY, END, NUMBER, whole
from stackwarden.books import check_book
from stackwarden.units import book_of
from stackwarden.warden import warded

THING = ("thing", None, [], False)


def some_unit():
    makes = [THING, ("pair", 0, [NUMBER, whole(2)], True), ("more", 1, [("raw", 1, 3)], False)]
    parts = [("main", [NUMBER], NUMBER, (3, 4, [("load", 0), ("give",)], [(0, 1, 1)])),
             ("other", [whole(1), NUMBER, ANY], whole(2), None), ("last", [], ANY, None)]
    return (makes, parts)


class TestBookOf(unittest.TestCase):
    def test_owned_and_believed(self):
        unit = some_unit()
        before = copy.deepcopy(unit)
        book = book_of(unit)
        self.assertEqual(book, (
            [(None, []), (0, [NUMBER, whole(2)]), (1, [("raw", 1, 3)])],
            [([NUMBER], NUMBER, 3, 4, [("load", 0), ("give",)], [(0, 1, 1)]),
             ([whole(1), NUMBER, ANY], whole(2), 3, 1, [("push", 0), ("toss",)], []),
             ([], ANY, 0, 1, [("push", 0), ("toss",)], [])]))
        self.assertEqual(unit, before)
        self.assertIsNone(check_book(book))
        self.assertEqual(len(warded(book)), 3)

    def test_whether_a_make_is_owned_does_not_matter(self):
        unit = some_unit()
        others = [make[:3] + (not make[3],) for make in unit[0][1:]]
        self.assertEqual(book_of(([THING] + others, unit[1])), book_of(unit))

    def test_nothing_is_looked_at(self):
        self.assertEqual(book_of(([THING], [])), ([(None, [])], []))
        rows = [("load", 7), "no row", ("jump", 99)]
        unit = ([THING, ("a", 5, [whole(9), ("raw", 0, -1)], True), ("a", -1, [NUMBER] * 9, True)],
                [("b", [whole(8)], ("raw", 3, 3), (-1, 99, rows, [(5, 3, 1)] * 9)),
                 ("b", [NUMBER] * 9, whole(-1), None)])
        self.assertEqual(book_of(unit), (
            [(None, []), (5, [whole(9), ("raw", 0, -1)]), (-1, [NUMBER] * 9)],
            [([whole(8)], ("raw", 3, 3), -1, 99, rows, [(5, 3, 1)] * 9),
             ([NUMBER] * 9, whole(-1), 9, 1, [("push", 0), ("toss",)], [])]))

    def test_each_list_is_new(self):
        unit = some_unit()
        book, other = book_of(unit), book_of(unit)
        before = copy.deepcopy(book)
        for some in [other[0], other[1]] + [make[1] for make in other[0]] + [
                inner for part in other[1] for inner in (part[0], part[4], part[5])]:
            some.append("spoilt")
        self.assertEqual((book, book_of(unit)), (before, before))
        for some in [unit[0], unit[1], unit[0][1][2], unit[1][0][1], unit[1][0][3][2], unit[1][0][3][3], unit[1][1][1]]:
            some.append("spoilt")
        self.assertEqual(book, before)

    def test_believed_parts_do_not_share(self):
        parts = [("a", [], NUMBER, None), ("b", [], NUMBER, None), ("c", [], NUMBER, (0, 1, END, []))]
        book = book_of(([THING], parts))
        book[1][0][4].clear()
        self.assertEqual(book[1][1][4], [("push", 0), ("toss",)])


if __name__ == "__main__":
    unittest.main()
