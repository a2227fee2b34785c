import copy
import unittest

from samples import ANY, MASKS, NUMBER, some_makes
from stackwarden.books import check_book
from stackwarden.errors import NoBook, WardenError

HUGE = 10 ** 40


def part(takes=(), gives=NUMBER, boxes=2, height=3, rows=(("push", 0), ("give",)), stretches=()):
    return (list(takes), gives, boxes, height, list(rows), list(stretches))


# A row at place 0 or 1 of three rows, the others right.
def rows_with(row, at=0):
    rows = [("push", 0), ("push", 0), ("toss",)]
    rows[at] = row
    return rows


def book_with(**wrong):
    return (some_makes(), [part(), part(**wrong), part()])


class BookCase(unittest.TestCase):
    def assert_right(self, book):
        before = copy.deepcopy(book)
        self.assertIsNone(check_book(book))
        self.assertEqual(book, before)

    def assert_wrong(self, book, number, at=None):
        before = copy.deepcopy(book)
        with self.assertRaises(NoBook) as caught:
            check_book(book)
        self.assertEqual((caught.exception.part, caught.exception.at), (number, at), book)
        self.assertIsInstance(caught.exception, WardenError)
        self.assertEqual(book, before)


class TestRight(BookCase):
    def test_least(self):
        self.assert_right(([(None, [])], [([], NUMBER, 0, 1, [("jump", 0)], [])]))

    def test_each_last_row(self):
        for row in (("jump", 1), ("jump", 0), ("toss",), ("give",)):
            self.assert_right(book_with(rows=[("push", 1), row]))

    def test_most_makes_and_parts(self):
        self.assertEqual(len(some_makes()), 8)
        self.assert_right((some_makes(), [part() for k in range(8)]))
        self.assert_right((some_makes(), [part(rows=[("call", k), ("give",)]) for k in range(8)]))

    def test_most_fields(self):
        self.assert_right(([(None, []), (0, [NUMBER] * 6)], [part()]))
        self.assert_right(([(None, [])] + [(k, [NUMBER] if k < 6 else []) for k in range(7)], [part()]))

    def test_fields_of_makes_behind_and_of_their_own(self):
        for kind in (("whole", 2), ("raw", 2, 3), ("whole", 1), ("raw", 1, 1), ("raw", 0, 0), ANY):
            self.assert_right(([(None, []), (0, [kind]), (1, [NUMBER])], [part()]))

    def test_each_elder(self):
        for elder in range(7):
            self.assert_right(([(None, [])] + [(0, []) for k in range(6)] + [(elder, [])], [part()]))

    def test_each_kind(self):
        for c in range(8):
            for kind in (ANY, NUMBER, ("whole", c), ("raw", c, 0), ("raw", c, MASKS[c])):
                self.assert_right(book_with(takes=[kind], gives=kind))
                self.assert_right((some_makes(), [part(takes=[kind, kind], gives=kind)]))

    def test_boxes_takes_height(self):
        for boxes in range(9):
            self.assert_right(book_with(boxes=boxes))
            self.assert_right(book_with(boxes=boxes, takes=[NUMBER] * boxes))
        for height in range(1, 9):
            self.assert_right(book_with(height=height))

    def test_most_rows(self):
        for size in (1, 2, 99, 100):
            self.assert_right(book_with(rows=[("push", 0)] * (size - 1) + [("toss",)]))
            self.assert_right(book_with(rows=[("jump", size - 1)] * size, stretches=[(0, size, size - 1)]))

    def test_stretches(self):
        for stretch in ((0, 1, 0), (0, 3, 2), (2, 3, 0), (1, 2, 1)):
            for many in (0, 1, 8):
                self.assert_right(book_with(rows=rows_with(("dup",)), stretches=[stretch] * many))

    def test_rows_at_their_bounds(self):
        rows = [("push", -2147483648), ("push", 2147483647), ("load", 1), ("store", 1), ("kin", 7, 17), ("make", 7),
                ("fill", 5, 5), ("begin", 7), ("get", 5, 5), ("put", 5, 5), ("call", 2), ("zero", 17), ("dup",),
                ("swap",), ("drop",), ("say",), ("toss",), ("give",)]
        self.assert_right(book_with(rows=rows))
        self.assert_right(book_with(rows=[("load", 7), ("store", 7), ("give",)], boxes=8))
        for c, mask in MASKS.items():
            if mask:
                f = mask.bit_length() - 1
                self.assert_right(book_with(rows=[("fill", c, f), ("get", c, f), ("put", c, f), ("give",)]))

    def test_not_whether_it_is_let_by(self):
        self.assert_right(book_with(rows=[("drop",), ("add",), ("give",)]))


class TestWrongMakes(BookCase):
    def assert_makes_wrong(self, makes):
        self.assert_wrong((makes, [part()]), None)
        self.assert_wrong((makes, []), None)
        self.assert_wrong((makes, [part(boxes=9), part(rows=[])]), None)

    def test_number_of_makes(self):
        self.assert_makes_wrong([])
        for many in (9, 10, 120):
            self.assert_makes_wrong([(None, [])] + [(0, [])] * (many - 1))

    def test_make_nought(self):
        for make in ((0, []), (1, []), (-1, []), (None, [NUMBER]), (None, [ANY, ANY]), (HUGE, [])):
            self.assert_makes_wrong([make])
            self.assert_makes_wrong([make, (0, [])])

    def test_elders(self):
        for c in (1, 2, 7):
            for elder in (None, c, c + 1, -1, -c, 7, 8, HUGE, -HUGE):
                makes = [(None, [])] + [(0, []) for k in range(7)]
                makes[c] = (elder, [])
                self.assert_makes_wrong(makes)

    def test_two_that_are_elders_of_one_another(self):
        self.assert_makes_wrong([(None, []), (2, [("raw", 2, 0)]), (1, [("raw", 1, 0)])])

    def test_seven_fields(self):
        self.assert_makes_wrong([(None, []), (0, [NUMBER] * 7)])
        self.assert_makes_wrong([(None, []), (0, [NUMBER] * 120)])
        self.assert_makes_wrong([(None, []), (0, [NUMBER] * 6), (1, [NUMBER])])
        self.assert_makes_wrong([(None, []), (0, [NUMBER] * 3), (1, [NUMBER] * 3), (2, []), (3, [ANY])])

    def test_kinds_of_fields(self):
        for kind in (("whole", 3), ("whole", -1), ("whole", HUGE), ("raw", 3, 0), ("raw", -1, 0), ("raw", 8, 0),
                     ("raw", 0, 1), ("raw", 1, -1), ("raw", 1, 4), ("raw", 2, 8), ("raw", 2, -1), ("raw", 2, HUGE)):
            self.assert_makes_wrong([(None, []), (0, [NUMBER, kind]), (1, [NUMBER])])
            self.assert_makes_wrong([(None, []), (0, [NUMBER, NUMBER]), (1, [kind])])


class TestWrongParts(BookCase):
    def test_number_of_parts(self):
        for many in (0, 9, 10, 120):
            self.assert_wrong((some_makes(), [part() for k in range(many)]), None)
            self.assert_wrong((some_makes(), [part(height=0) for k in range(many)]), None)

    def test_kinds(self):
        for kind in (("whole", 8), ("whole", -1), ("whole", HUGE), ("raw", 8, 0), ("raw", -1, 0), ("raw", 5, 64),
                     ("raw", 5, -1), ("raw", 0, 1), ("raw", 7, 1), ("raw", 1, 4), ("raw", 1, HUGE)):
            self.assert_wrong(book_with(gives=kind), 1)
            self.assert_wrong(book_with(takes=[kind]), 1)
            self.assert_wrong(book_with(takes=[NUMBER, kind]), 1)

    def test_boxes_height_takes(self):
        for boxes in (-1, 9, HUGE, -HUGE):
            self.assert_wrong(book_with(boxes=boxes), 1)
        for height in (0, -1, 9, HUGE, -HUGE):
            self.assert_wrong(book_with(height=height), 1)
        for boxes in range(9):
            self.assert_wrong(book_with(boxes=boxes, takes=[NUMBER] * (boxes + 1)), 1)
        self.assert_wrong(book_with(takes=[NUMBER] * 120), 1)

    def test_number_of_rows(self):
        self.assert_wrong(book_with(rows=[]), 1)
        for size in (101, 120):
            self.assert_wrong(book_with(rows=[("jump", 0)] * size), 1)

    def test_no_row(self):
        for thing in (None, 0, True, "dup", [], ["dup"], (), ("dup", 0), ("hop",), (None,), ([],), ("push",), {},
                      ("push", True), ("push", 2147483648), ("push", -2147483649), ("push", "1"), ("push", None),
                      ("jump", -1), ("jump", 100), ("load", 8), ("load", -1), ("make", 8), ("fill", 5, 8),
                      ("fill", 5), ("kin", 0), ("kin", 0, 0, 0), ("call", 8), ("call", -1), ("put", 5, False)):
            for at in (0, 1):
                self.assert_wrong(book_with(rows=rows_with(thing, at)), 1, at)
            self.assert_wrong(book_with(rows=[("dup",), thing]), 1, 1)
            self.assert_wrong(book_with(rows=[thing]), 1, 0)

    def test_what_is_not_there(self):
        short = some_makes()[:6]
        for row in (("load", 2), ("store", 2), ("load", 7), ("call", 3), ("call", 7), ("jump", 3), ("zero", 3),
                    ("kin", 0, 3), ("jump", 99), ("make", 6), ("begin", 6), ("kin", 6, 0), ("make", 7),
                    ("fill", 6, 0), ("get", 6, 0), ("put", 6, 0), ("fill", 5, 6), ("get", 5, 7), ("put", 5, 6),
                    ("fill", 0, 0), ("get", 0, 0), ("put", 0, 0), ("fill", 1, 2), ("get", 4, 2), ("put", 3, 3)):
            makes = [short[0], short[1], (0, [NUMBER]), short[3], short[4], short[5]]
            for at in (0, 1):
                self.assert_wrong((makes, [part(), part(rows=rows_with(row, at)), part()]), 1, at)

    def test_no_box_at_all(self):
        for sign in ("load", "store"):
            self.assert_wrong(book_with(boxes=0, rows=rows_with((sign, 0))), 1, 0)

    def test_last_row(self):
        for row in (("push", 0), ("load", 0), ("store", 0), ("dup",), ("swap",), ("drop",), ("add",), ("sub",),
                    ("mul",), ("div",), ("rem",), ("less",), ("same",), ("zero", 0), ("kin", 0, 0), ("make", 1),
                    ("fill", 1, 0), ("begin", 1), ("get", 1, 0), ("put", 1, 0), ("call", 0), ("say",)):
            self.assert_wrong(book_with(rows=[row]), 1, 0)
            self.assert_wrong(book_with(rows=[("give",), ("toss",), row]), 1, 2)

    def test_stretches(self):
        rows = rows_with(("dup",))
        self.assert_wrong(book_with(rows=rows, stretches=[(0, 3, 0)] * 9), 1)
        self.assert_wrong(book_with(rows=rows, stretches=[(0, 3, 0)] * 120), 1)
        for stretch in ((-1, 2, 0), (-HUGE, 2, 0), (1, 1, 0), (2, 1, 0), (3, 3, 0), (0, 0, 0), (0, 4, 0), (3, 4, 0),
                        (0, HUGE, 0), (0, 3, -1), (0, 3, 3), (0, 3, 4), (0, 3, HUGE), (HUGE, HUGE + 1, 0)):
            self.assert_wrong(book_with(rows=rows, stretches=[stretch]), 1)
            self.assert_wrong(book_with(rows=rows, stretches=[(0, 3, 0), stretch]), 1)


# Wrong things of a part in the order in which they go, with what is told of `at`.
ORDER = [
    ({"takes": [("whole", 8)]}, None),
    ({"gives": ("raw", 1, 4)}, None),
    ({"boxes": 9}, None),
    ({"height": 0}, None),
    ({"takes": [NUMBER] * 3}, None),
    ({"rows": []}, None),
    ({"rows": [("jump", 0)] * 101}, None),
    ({"rows": [("dup",), None, ("load", 7), ("drop",)]}, 1),
    ({"rows": [("dup",), ("load", 2), None, ("drop",)]}, 1),
    ({"rows": [("dup",), ("dup",), ("get", 7, 0), ("drop",)]}, 2),
    ({"rows": [("dup",), ("drop",)]}, 1),
    ({"stretches": [(0, 0, 0)]}, None),
]


class TestOrder(BookCase):
    def test_makes_ahead_of_the_number_of_parts_ahead_of_parts(self):
        self.assert_wrong(([(0, [])], [part(rows=[None])]), None)
        self.assert_wrong((some_makes(), [part(rows=[None])] * 9), None)
        self.assert_wrong(([], []), None)

    def test_the_first_wrong_part(self):
        for wrong, at in ORDER:
            for other, ignored in ORDER:
                self.assert_wrong((some_makes(), [part(), part(**wrong), part(**other)]), 1, at)
                self.assert_wrong((some_makes(), [part(**wrong), part(), part(**other)]), 0, at)
            self.assert_wrong((some_makes(), [part()] * 7 + [part(**wrong)]), 7, at)

    def test_within_a_part(self):
        for k, (first, at) in enumerate(ORDER):
            for behind, ignored in ORDER[k + 1:]:
                self.assert_wrong(book_with(**{**behind, **first}), 1, at)

    def test_a_row_at_the_end_that_is_wrong_and_a_wrong_one_ahead(self):
        self.assert_wrong(book_with(rows=[("load", 2), ("dup",)]), 1, 0)
        self.assert_wrong(book_with(rows=[("dup",), ("load", 2)]), 1, 1)
        self.assert_wrong(book_with(rows=[("hop",), ("dup",)]), 1, 0)
        self.assert_wrong(book_with(rows=[("jump", 2), ("jump", 2)], stretches=[(0, 9, 0)]), 1, 0)

    def test_a_field_of_a_make_that_is_not_there(self):
        book = (some_makes()[:1], [part(rows=[("fill", 7, 7), ("give",)])])
        self.assert_wrong(book, 0, 0)


if __name__ == "__main__":
    unittest.main()
