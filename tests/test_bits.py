import random
import unittest

from stackwarden.bits import bytes_of, rows_of
from stackwarden.errors import NoCode
from stackwarden.rows import is_row

LEAST = -2147483648
MOST = 2147483647

# Each row's bytes where it stands alone, or leads to itself.
ALONE = [
    (("push", 0), [0]),
    (("load", 0), [8]), (("load", 7), [15]), (("store", 0), [16]), (("store", 5), [21]),
    (("dup",), [24]), (("swap",), [32]), (("drop",), [40]),
    (("add",), [48]), (("sub",), [56]), (("mul",), [64]), (("div",), [72]), (("rem",), [80]),
    (("less",), [88]), (("same",), [96]),
    (("jump", 0), [104, 0, 0]), (("zero", 0), [112, 0, 0]), (("kin", 0, 0), [120, 0, 0]), (("kin", 6, 0), [126, 0, 0]),
    (("make", 3), [131]), (("fill", 2, 7), [138, 7]), (("begin", 7), [151]), (("get", 0, 5), [152, 5]),
    (("put", 7, 0), [167, 0]), (("call", 4), [172]), (("toss",), [176]), (("say",), [184]), (("give",), [192]),
]

PUSHES = [
    (0, []), (1, [1]), (-1, [255]), (127, [127]), (-128, [128]),
    (128, [0, 128]), (-129, [255, 127]), (255, [0, 255]), (256, [1, 0]), (-256, [255, 0]),
    (32767, [127, 255]), (-32768, [128, 0]),
    (32768, [0, 128, 0]), (-32769, [255, 127, 255]), (8388607, [127, 255, 255]), (-8388608, [128, 0, 0]),
    (8388608, [0, 128, 0, 0]), (-8388609, [255, 127, 255, 255]),
    (MOST, [127, 255, 255, 255]), (LEAST, [128, 0, 0, 0]), (MOST - 1, [127, 255, 255, 254]),
    (LEAST + 1, [128, 0, 0, 1]), (16909060, [1, 2, 3, 4]),
]


def some_word(chance):
    half = 1 << chance.choice((1, 7, 8, 15, 16, 23, 24, 31))
    return max(LEAST, min(MOST, chance.choice((-half, half)) + chance.randrange(-2, 3)))


def some_row(chance, places):
    sign = chance.choice(("push", "load", "store", "dup", "same", "jump", "zero", "kin", "make", "fill", "begin",
                          "get", "put", "call", "toss", "say", "give"))
    small = chance.randrange(8)
    if sign == "push":
        return (sign, some_word(chance))
    if sign in ("jump", "zero"):
        return (sign, chance.randrange(places))
    if sign == "kin":
        return (sign, small, chance.randrange(places))
    if sign in ("fill", "get", "put"):
        return (sign, small, chance.randrange(8))
    if sign in ("load", "store", "make", "begin", "call"):
        return (sign, small)
    return (sign,)


class TestWritten(unittest.TestCase):
    def test_no_rows(self):
        self.assertEqual(bytes_of([]), [])

    def test_each_sign(self):
        self.assertEqual(len({row[0] for row, some in ALONE}), 25)
        for row, some in ALONE:
            self.assertEqual(bytes_of([row]), some, row)

    def test_pushes(self):
        for word, tail in PUSHES:
            self.assertEqual(bytes_of([("push", word)]), [len(tail)] + tail, word)

    def test_places_are_numbers_of_bytes(self):
        rows = [("push", 1000), ("jump", 3), ("fill", 1, 2), ("kin", 5, 2), ("zero", 1), ("give",)]
        self.assertEqual(bytes_of(rows), [2, 3, 232, 104, 0, 8, 137, 2, 125, 0, 6, 112, 0, 3, 192])

    def test_places_beyond_one_byte(self):
        rows = [("push", LEAST)] * 52 + [("jump", 52), ("zero", 51), ("kin", 1, 54), ("give",)]
        some = bytes_of(rows)
        self.assertEqual(some[260:], [104, 1, 4, 112, 0, 255, 121, 1, 10, 192])

    def test_the_last_place_and_a_hundred_rows(self):
        rows = [("push", LEAST)] * 98 + [("jump", 99), ("give",)]
        some = bytes_of(rows)
        self.assertEqual(len(some), 98 * 5 + 3 + 1)
        self.assertEqual(some[490:], [104, 1, 237, 192])

    def test_a_new_list_of_whole_numbers(self):
        rows = [("push", 5), ("jump", 0)]
        one = bytes_of(rows)
        self.assertTrue(all(type(byte) is int and 0 <= byte <= 255 for byte in one))
        one.append(7)
        one[0] = 9
        self.assertEqual(bytes_of(rows), [1, 5, 104, 0, 0])
        self.assertEqual(rows, [("push", 5), ("jump", 0)])

    def test_rows_changed_behind(self):
        rows = [("push", 5), ("give",)]
        some = bytes_of(rows)
        rows[0] = ("dup",)
        self.assertEqual(some, [1, 5, 192])


class TestRead(unittest.TestCase):
    def assert_refused(self, some, at, word):
        handed = list(some)
        with self.assertRaises(NoCode) as caught:
            rows_of(handed)
        self.assertEqual((caught.exception.at, caught.exception.word), (at, word), some)
        self.assertIs(type(caught.exception.at), int)
        self.assertEqual(handed, some)

    def test_no_bytes(self):
        self.assertEqual(rows_of([]), [])

    def test_each_sign(self):
        for row, some in ALONE:
            self.assertEqual(rows_of(some), [row])

    def test_pushes(self):
        for word, tail in PUSHES:
            self.assertEqual(rows_of([len(tail)] + tail), [("push", word)])

    def test_places(self):
        rows = [("push", 1000), ("jump", 3), ("fill", 1, 2), ("kin", 5, 2), ("zero", 1), ("give",)]
        self.assertEqual(rows_of(bytes_of(rows)), rows)

    def test_many(self):
        self.assertEqual(rows_of([24] * 100), [("dup",)] * 100)
        self.assert_refused([24] * 101, 100, "many")
        self.assert_refused([4, 128, 0, 0, 0] * 100 + [255], 500, "many")
        self.assert_refused([24] * 99 + [104, 3, 0, 24], 102, "many")

    def test_word(self):
        for byte in range(200, 256):
            self.assert_refused([byte], 0, "word")
            self.assert_refused([2, 1, 0, 24, byte, 0, 0], 4, "word")

    def test_low_bits(self):
        for number in (3, 4, 5, 6, 7, 8, 9, 10, 11, 12, 13, 14, 22, 23, 24):
            for low in range(1, 8):
                self.assert_refused([number * 8 + low, 0, 0], 0, "low")
                self.assert_refused([1, 1, number * 8 + low], 2, "low")
        for low in (5, 6, 7):
            self.assert_refused([low, 1, 2, 3, 4, 5, 6, 7], 0, "low")
            self.assert_refused([24, low], 1, "low")

    def test_field_above_seven(self):
        for first in (136, 143, 152, 159, 160, 167):
            for byte in (8, 9, 128, 255):
                self.assert_refused([first, byte], 0, "low")
                self.assert_refused([24, 0, first, byte, 24], 2, "low")

    def test_short(self):
        for first, tail in ((1, 1), (2, 2), (3, 3), (4, 4), (104, 2), (112, 2), (120, 2), (127, 2), (136, 1),
                            (152, 1), (167, 1)):
            for there in range(tail):
                self.assert_refused([first] + [0] * there, 0, "short")
                self.assert_refused([24, 8, first] + [0] * there, 2, "short")

    def test_long(self):
        for tail in ([0], [0, 0], [0, 127], [255, 128], [255, 255], [0, 0, 128], [0, 127, 255], [255, 128, 0],
                     [255, 255, 127], [0, 0, 0, 0], [0, 127, 255, 255], [255, 128, 0, 0], [255, 255, 255, 255]):
            self.assert_refused([len(tail)] + tail, 0, "long")
            self.assert_refused([1, 5, len(tail)] + tail + [192], 2, "long")

    def test_amid(self):
        self.assert_refused([104, 0, 1], 0, "amid")
        self.assert_refused([104, 0, 3], 0, "amid")
        self.assert_refused([104, 1, 0], 0, "amid")
        self.assert_refused([24, 112, 0, 2], 1, "amid")
        self.assert_refused([1, 9, 125, 0, 1, 24], 2, "amid")
        self.assert_refused([126, 255, 255, 24], 0, "amid")

    def test_the_first_wrong_row_is_told(self):
        self.assert_refused([24, 255, 5, 25], 1, "word")
        self.assert_refused([24, 25, 255], 1, "low")
        self.assert_refused([1, 0, 255], 0, "long")
        self.assert_refused([136, 8, 4, 1], 0, "low")
        self.assert_refused([104, 0, 0, 112, 0, 2, 120, 0, 5], 3, "amid")

    def test_amid_only_when_all_are_read(self):
        self.assert_refused([104, 0, 1, 255], 3, "word")
        self.assert_refused([104, 0, 1, 25], 3, "low")
        self.assert_refused([104, 0, 1, 2, 0], 3, "short")
        self.assert_refused([104, 0, 1, 1, 0], 3, "long")
        self.assert_refused([104, 0, 1] + [24] * 100, 102, "many")

    def test_the_order_within_a_row(self):
        self.assert_refused([24] * 100 + [255], 100, "many")
        self.assert_refused([24] * 100 + [1], 100, "many")
        self.assert_refused([7], 0, "low")
        self.assert_refused([105], 0, "low")
        self.assert_refused([2, 0], 0, "short")
        self.assert_refused([203], 0, "word")

    def test_lists_are_new_and_stay(self):
        some = [1, 5, 104, 0, 0]
        one = rows_of(some)
        one.append(("dup",))
        one[0] = None
        self.assertEqual(rows_of(some), [("push", 5), ("jump", 0)])
        self.assertEqual(some, [1, 5, 104, 0, 0])
        told = rows_of(some)
        some[1] = 6
        self.assertEqual(told, [("push", 5), ("jump", 0)])


class TestBoth(unittest.TestCase):
    def test_written_then_read(self):
        chance = random.Random(8)
        for turn in range(400):
            places = chance.choice((1, 2, 5, 30, 99, 100))
            rows = [some_row(chance, places) for k in range(places)]
            some = bytes_of(rows)
            self.assertEqual(rows_of(some), rows)
            self.assertEqual(bytes_of(rows_of(some)), some)

    def test_all_of_one_and_two_bytes(self):
        for one in range(256):
            self.check_read([one])
            for other in range(256):
                self.check_read([one, other])

    def test_chosen_bytes(self):
        chance = random.Random(7)
        for turn in range(20000):
            size = chance.randrange(3, 12)
            self.check_read([chance.choice((0, 1, 2, 3, 7, 24, 104, 112, 122, 138, chance.randrange(256)))
                             for k in range(size)])

    def check_read(self, some):
        handed = list(some)
        try:
            rows = rows_of(handed)
        except NoCode as error:
            self.assertIn(error.word, ("many", "word", "low", "short", "long", "amid"))
            self.assertTrue(0 <= error.at < len(some))
        else:
            self.assertTrue(all(is_row(row) for row in rows), some)
            self.assertEqual(bytes_of(rows), some)
        self.assertEqual(handed, some)


if __name__ == "__main__":
    unittest.main()
