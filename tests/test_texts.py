import random
import unittest

from stackwarden.errors import NoRow
from stackwarden.texts import read, shown

LEAST = -2147483648
MOST = 2147483647

SHOWN = [
    (("push", 0), "push 0"), (("push", -5), "push -5"), (("push", LEAST), "push -2147483648"),
    (("push", MOST), "push 2147483647"), (("push", 10), "push 10"),
    (("load", 0), "load 0"), (("load", 7), "load 7"), (("store", 3), "store 3"),
    (("dup",), "dup"), (("swap",), "swap"), (("drop",), "drop"), (("add",), "add"), (("sub",), "sub"),
    (("mul",), "mul"), (("div",), "div"), (("rem",), "rem"), (("less",), "less"), (("same",), "same"),
    (("jump", 0), "jump 0"), (("jump", 99), "jump 99"), (("zero", 42), "zero 42"), (("kin", 2, 14), "kin 2 14"),
    (("make", 7), "make 7"), (("fill", 1, 0), "fill 1 0"), (("begin", 6), "begin 6"), (("get", 0, 7), "get 0 7"),
    (("put", 5, 4), "put 5 4"), (("call", 7), "call 7"), (("toss",), "toss"), (("say",), "say"), (("give",), "give"),
]


class TestShown(unittest.TestCase):
    def test_no_rows(self):
        self.assertEqual(shown([]), "")

    def test_each_sign(self):
        self.assertEqual(len({row[0] for row, text in SHOWN}), 25)
        for row, text in SHOWN:
            self.assertEqual(shown([row]), text)

    def test_rows_are_parted_by_line_feeds(self):
        rows = [("push", -5), ("dup",), ("kin", 2, 14)]
        self.assertEqual(shown(rows), "push -5\ndup\nkin 2 14")
        self.assertEqual(rows, [("push", -5), ("dup",), ("kin", 2, 14)])


class TestRead(unittest.TestCase):
    def assert_refused(self, text, at):
        with self.assertRaises(NoRow) as caught:
            read(text)
        self.assertEqual(caught.exception.at, at, text)
        self.assertIs(type(caught.exception.at), int)

    def test_no_rows(self):
        for text in ("", "\n", "\n\n\n", "   ", "  \n \n", "#", "# push", "#\n  # dup\n####"):
            self.assertEqual(read(text), [], text)

    def test_each_sign(self):
        for row, text in SHOWN:
            self.assertEqual(read(text), [row])
        self.assertEqual(read("\n".join(text for row, text in SHOWN)), [row for row, text in SHOWN])

    def test_blanks(self):
        self.assertEqual(read("   push    5   \n\n  kin  2   14"), [("push", 5), ("kin", 2, 14)])
        self.assertEqual(read("dup \n \n dup"), [("dup",), ("dup",)])

    def test_line_feeds_ahead_and_behind(self):
        self.assertEqual(read("\n\ndup\n\n\nadd\n\n"), [("dup",), ("add",)])

    def test_remarks(self):
        text = "# first # second\npush 5 # the # five\n   # dup\nload 3#near\n#\ngive #"
        self.assertEqual(read(text), [("push", 5), ("load", 3), ("give",)])
        self.assertEqual(read("push 1#2\npush 1 #2\n#push 3\nadd# sub"), [("push", 1), ("push", 1), ("add",)])
        self.assertEqual(read("dup # ~!@$^&*()_+ \"' no row at all"), [("dup",)])

    def test_a_remark_that_hides_too_much(self):
        self.assert_refused("push # 5", 0)
        self.assert_refused("kin 2 #14", 0)
        self.assert_refused("d#up", 0)

    def test_unknown_signs(self):
        for line in ("pop", "Dup", "DUP", "dupp", "du", "5", "-", "dup,", "push5", "pu sh 5", "~", "!", "(dup)"):
            self.assert_refused(line, 0)

    def test_too_few_and_too_many_numbers(self):
        for row, text in SHOWN:
            self.assert_refused(text + " 0", 0)
            if len(row) > 1:
                self.assert_refused(text.rpartition(" ")[0], 0)

    def test_one_beyond_the_bounds(self):
        for line in ("push 2147483648", "push -2147483649", "load 8", "load -1", "store 8", "store -1", "jump 100",
                     "jump -1", "zero 100", "zero -1", "kin 8 0", "kin -1 0", "kin 0 100", "kin 0 -1", "make 8",
                     "make -1", "fill 8 0", "fill 0 8", "fill -1 0", "fill 0 -1", "begin 8", "begin -1", "get 8 0",
                     "get 0 8", "get -1 0", "get 0 -1", "put 8 0", "put 0 8", "put -1 0", "put 0 -1", "call 8",
                     "call -1", "push 9999999999", "push -9999999999"):
            self.assert_refused(line, 0)

    def test_ill_written_numbers(self):
        for number in ("00", "01", "007", "-0", "-00", "-01", "+1", "+0", "--1", "-", "+", "1-", "1-2", "1_0", "1.0",
                       "1e1", "1x", "2a3", "0x1", "0b1", "1,", "one", "a", "12345678901", "-12345678901", "00000000001",
                       "10000000000", "'1'", "(1)", "True", "None", "dup", "9" * 5000, "-" + "9" * 5000):
            for before in ("push ", "load ", "jump ", "fill 1 ", "kin 1 "):
                self.assert_refused(before + number, 0)
            self.assert_refused(f"fill {number} 1", 0)
            self.assert_refused(f"kin {number} 1", 0)

    def test_numbers_at_the_edges(self):
        self.assertEqual(read("push 1000000000\npush -1000000000\npush -1\npush 9"),
                         [("push", 1000000000), ("push", -1000000000), ("push", -1), ("push", 9)])
        self.assertIs(type(read("push 1")[0][1]), int)

    def test_lines_are_counted_from_nought_over_all(self):
        self.assert_refused("dup\npop", 1)
        self.assert_refused("\n\n  \n# remark\npop", 4)
        self.assert_refused("dup\n\n# dup\npush 1 # one\n  push", 4)
        self.assert_refused("\npop\n", 1)

    def test_the_first_wrong_line_is_told(self):
        self.assert_refused("dup\npop\npush\n", 1)
        self.assert_refused("\npush 2147483648\n\npop", 1)
        self.assert_refused("load 01\npop\npop", 0)

    def test_every_list_is_a_new_one(self):
        one = read("dup\nadd")
        one.append(("give",))
        one[0] = None
        self.assertEqual(read("dup\nadd"), [("dup",), ("add",)])

    def test_shown_then_read(self):
        chance = random.Random(9)
        for turn in range(300):
            rows = [chance.choice(SHOWN)[0] for k in range(chance.randrange(101))]
            rows = [("push", chance.randrange(LEAST, MOST + 1)) if row[0] == "push" else row for row in rows]
            handed = list(rows)
            self.assertEqual(read(shown(handed)), rows)
            self.assertEqual(handed, rows)


if __name__ == "__main__":
    unittest.main()
