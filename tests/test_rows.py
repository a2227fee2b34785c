import unittest

from stackwarden.rows import is_row, sign_number

LEAST = -2147483648
MOST = 2147483647

# Each sign in order, with the bounds of its numbers.
BOUNDS = [
    ("push", [(LEAST, MOST)]), ("load", [(0, 7)]), ("store", [(0, 7)]), ("dup", []), ("swap", []), ("drop", []),
    ("add", []), ("sub", []), ("mul", []), ("div", []), ("rem", []), ("less", []), ("same", []),
    ("jump", [(0, 99)]), ("zero", [(0, 99)]), ("kin", [(0, 7), (0, 99)]),
    ("make", [(0, 7)]), ("fill", [(0, 7), (0, 7)]), ("begin", [(0, 7)]), ("get", [(0, 7), (0, 7)]),
    ("put", [(0, 7), (0, 7)]), ("call", [(0, 7)]), ("toss", []), ("say", []), ("give", []),
]


class TestIsRow(unittest.TestCase):
    def assert_row(self, thing):
        self.assertIs(is_row(thing), True, thing)

    def assert_none(self, thing):
        self.assertIs(is_row(thing), False, thing)

    def test_the_document_s_rows(self):
        for row in (("push", -5), ("dup",), ("kin", 2, 14)):
            self.assert_row(row)

    def test_as_many_numbers_as_wanted(self):
        for sign, bounds in BOUNDS:
            numbers = tuple(0 for bound in bounds)
            self.assert_row((sign,) + numbers)
            self.assert_none((sign,) + numbers + (0,))
            if numbers:
                self.assert_none((sign,) + numbers[1:])

    def test_ends_and_beside(self):
        for sign, bounds in BOUNDS:
            for spot, (least, most) in enumerate(bounds):
                numbers = [3 for bound in bounds]
                for number in (least, most, least + 1, most - 1):
                    numbers[spot] = number
                    self.assert_row((sign,) + tuple(numbers))
                for number in (least - 1, most + 1, -(10 ** 40), 10 ** 40):
                    numbers[spot] = number
                    self.assert_none((sign,) + tuple(numbers))

    def test_things_that_are_no_numbers(self):
        for sign, bounds in BOUNDS:
            for spot in range(len(bounds)):
                for thing in (True, False, "1", "", None, (1,), (), [1], {}, 1.0, b"1"):
                    numbers = [1 for bound in bounds]
                    numbers[spot] = thing
                    self.assert_none((sign,) + tuple(numbers))

    def test_a_list_is_none(self):
        for sign, bounds in BOUNDS:
            self.assert_none([sign] + [1 for bound in bounds])

    def test_no_tuples(self):
        for thing in (None, True, 0, 24, "dup", "push 5", "", [], {}, {"dup": 1}, {"dup"}, 1.5, b"dup"):
            self.assert_none(thing)

    def test_the_empty_tuple(self):
        self.assert_none(())

    def test_unknown_signs(self):
        for sign in ("", "Push", "PUSH", "pus", "pushs", " push", "push ", "pop", "goto", "neg"):
            for numbers in ((), (1,), (1, 1)):
                self.assert_none((sign,) + numbers)

    def test_signs_that_are_no_texts(self):
        for sign in (None, True, 0, 3, (), ("dup",), ["dup"], {}, {"dup"}, b"dup"):
            for numbers in ((), (1,), (1, 1)):
                self.assert_none((sign,) + numbers)

    def test_row_within_a_row(self):
        self.assert_none((("dup",),))
        self.assert_none((("push", 5), 5))


class TestSignNumber(unittest.TestCase):
    def test_each(self):
        self.assertEqual(len(BOUNDS), 25)
        for number, (sign, bounds) in enumerate(BOUNDS):
            self.assertEqual(sign_number(sign), number)
            self.assertIs(type(sign_number(sign)), int)


if __name__ == "__main__":
    unittest.main()
