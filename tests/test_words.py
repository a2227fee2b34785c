import random
import unittest

from stackwarden.errors import Nought
from stackwarden.words import reckoned, wrapped

LEAST = -2147483648
MOST = 2147483647
TURN = 4294967296
WORDS = (LEAST, LEAST + 1, -65536, -100, -7, -3, -2, -1, 0, 1, 2, 3, 7, 100, 65536, MOST - 1, MOST)


class WordCase(unittest.TestCase):
    def assert_word(self, told, expected):
        self.assertIs(type(told), int)
        self.assertEqual(told, expected)


class TestWrapped(WordCase):
    def test_words_stay(self):
        for word in WORDS:
            self.assert_word(wrapped(word), word)

    def test_beyond_the_ends(self):
        self.assert_word(wrapped(MOST + 1), LEAST)
        self.assert_word(wrapped(MOST + 2), LEAST + 1)
        self.assert_word(wrapped(LEAST - 1), MOST)
        self.assert_word(wrapped(LEAST - 2), MOST - 1)

    def test_multiples_of_a_turn(self):
        for times in (-(10 ** 50), -3, -2, -1, 1, 2, 3, 10 ** 50):
            for beside in (-1, 0, 1):
                self.assert_word(wrapped(times * TURN + beside), beside)

    def test_multiples_of_a_half_turn(self):
        for times in (-(10 ** 50) + 1, -5, -3, -1, 1, 3, 5, 10 ** 50 + 1):
            self.assert_word(wrapped(times * 2147483648 - 1), MOST)
            self.assert_word(wrapped(times * 2147483648), LEAST)
            self.assert_word(wrapped(times * 2147483648 + 1), LEAST + 1)

    def test_sixty_figures(self):
        for number in (10 ** 60 - 1, 10 ** 59, int("123456789" * 6), 10 ** 20 + 7):
            for signed in (number, -number):
                told = wrapped(signed)
                self.assertIs(type(told), int)
                self.assertTrue(LEAST <= told <= MOST)
                self.assertEqual((told - signed) % TURN, 0)

    def test_chosen_numbers(self):
        chance = random.Random(4)
        for turn in range(2000):
            number = chance.randrange(-(10 ** chance.randrange(1, 60)), 10 ** chance.randrange(1, 60))
            told = wrapped(number)
            self.assertTrue(LEAST <= told <= MOST)
            self.assertEqual((told - number) % TURN, 0)


class TestReckoned(WordCase):
    def test_add(self):
        self.assert_word(reckoned("add", 2, 3), 5)
        self.assert_word(reckoned("add", MOST, 1), LEAST)
        self.assert_word(reckoned("add", LEAST, -1), MOST)
        self.assert_word(reckoned("add", LEAST, LEAST), 0)

    def test_sub(self):
        self.assert_word(reckoned("sub", 2, 3), -1)
        self.assert_word(reckoned("sub", 3, 2), 1)
        self.assert_word(reckoned("sub", LEAST, 1), MOST)
        self.assert_word(reckoned("sub", 0, LEAST), LEAST)

    def test_mul(self):
        self.assert_word(reckoned("mul", -7, 6), -42)
        self.assert_word(reckoned("mul", LEAST, -1), LEAST)
        self.assert_word(reckoned("mul", 65536, 65536), 0)
        self.assert_word(reckoned("mul", MOST, MOST), 1)

    def test_div_goes_down(self):
        self.assert_word(reckoned("div", 7, 2), 3)
        self.assert_word(reckoned("div", -7, 2), -4)
        self.assert_word(reckoned("div", 7, -2), -4)
        self.assert_word(reckoned("div", -7, -2), 3)
        self.assert_word(reckoned("div", 6, -2), -3)
        self.assert_word(reckoned("div", 0, -2), 0)
        self.assert_word(reckoned("div", LEAST, -1), LEAST)
        self.assert_word(reckoned("div", LEAST, 1), LEAST)

    def test_rem_has_the_sign_of_the_second(self):
        self.assert_word(reckoned("rem", 7, 2), 1)
        self.assert_word(reckoned("rem", -7, 2), 1)
        self.assert_word(reckoned("rem", 7, -2), -1)
        self.assert_word(reckoned("rem", -7, -2), -1)
        self.assert_word(reckoned("rem", 6, -2), 0)
        self.assert_word(reckoned("rem", LEAST, -1), 0)
        self.assert_word(reckoned("rem", 1, LEAST), LEAST + 1)
        self.assert_word(reckoned("rem", -1, MOST), MOST - 1)

    def test_less_and_same(self):
        for one in WORDS:
            for other in WORDS:
                self.assert_word(reckoned("less", one, other), 1 if one < other else 0)
                self.assert_word(reckoned("same", one, other), 1 if one == other else 0)

    def test_by_nought(self):
        for one in WORDS:
            for sign in ("div", "rem"):
                with self.assertRaises(Nought):
                    reckoned(sign, one, 0)
            for sign in ("add", "sub", "mul", "less", "same"):
                reckoned(sign, one, 0)

    def test_all_pairs_by_their_laws(self):
        for one in WORDS:
            for other in WORDS:
                self.assert_word(reckoned("add", one, other), wrapped(one + other))
                self.assert_word(reckoned("sub", one, other), wrapped(one - other))
                self.assert_word(reckoned("mul", one, other), wrapped(one * other))
                if other != 0:
                    left = reckoned("rem", one, other)
                    self.assertTrue(0 <= left < other or other < left <= 0)
                    self.assertEqual((one - left) % other, 0)
                    self.assert_word(reckoned("div", one, other), wrapped((one - left) // other))


if __name__ == "__main__":
    unittest.main()
