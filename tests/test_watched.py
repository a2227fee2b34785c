import unittest

from samples import (ANY, LONE, LONE_MADE, NUMBER, PAIR, PAIR_MADE, TRIPLE, TRIPLE_MADE, door, number, record,
                     run_makes)
from stackwarden.books import check_book
from stackwarden.plain import Plain
from stackwarden.watched import Watched
from test_plain import (BudgetTests, CallTests, DoorTests, EndTests, FaultTests, KeepingTests, RowTests, book_of,
                        kept_book)


class AsWatched:
    machine = Watched

    def seen_frames(self, frames):
        return frames

    def seen_heap(self, heap):
        return heap


class TestRows(AsWatched, RowTests, unittest.TestCase):
    pass


class TestCalls(AsWatched, CallTests, unittest.TestCase):
    pass


class TestFaults(AsWatched, FaultTests, unittest.TestCase):
    pass


class TestBudget(AsWatched, BudgetTests, unittest.TestCase):
    pass


class TestEnds(AsWatched, EndTests, unittest.TestCase):
    pass


class TestDoors(AsWatched, DoorTests, unittest.TestCase):
    pass


class TestKeeping(AsWatched, KeepingTests, unittest.TestCase):
    pass


class TestRecords(unittest.TestCase):
    def test_it_is_a_plain_one_too(self):
        self.assertTrue(issubclass(Watched, Plain))

    def test_records_are_such_tuples(self):
        machine = Watched(kept_book(), 0, [5], 9)
        while machine.told()[0] is None:
            for make, begun, mask, fields in machine.heap():
                self.assertIs(type(begun), bool)
                self.assertIs(type(fields), tuple)
                for f, value in enumerate(fields):
                    self.assertEqual(value is not None, bool(mask & (1 << f)))
            machine.step()

    def test_a_begun_record_is_filled(self):
        # It is a record of make 1 with at least no fields, so fill may have it, and it stays begun.
        machine = Watched(book_of(door(PAIR + [("push", 9), ("fill", 1, 0), ("get", 1, 0), ("give",)])), 0, [], 0)
        for k in range(8):
            machine.step()
        self.assertEqual(machine.heap(), [(1, True, 3, (number(9), number(5)))])
        self.assertEqual(machine.frames()[0][3], (record(0),))
        machine.step()
        machine.step()
        self.assertEqual(machine.told(), (("gave", 9), [], 0))


# Rows that put one value on the stack: nothing, a number, records that are not begun and such that are.
NOTHING = [("load", 2)]
ONE = [("push", 1)]
RAW = [("make", 1)]
RAW_LONE = [("make", 3)]
HALF = [("make", 1), ("push", 4), ("fill", 1, 0)]
OTHER_HALF = [("make", 1), ("push", 4), ("fill", 1, 1)]
FILLED = PAIR[:-1]
RAW_TRIPLE = [("make", 2)]
FILLED_TRIPLE = TRIPLE[:-1]
VALUES = [NOTHING, ONE, RAW, RAW_LONE, HALF, OTHER_HALF, FILLED, RAW_TRIPLE, FILLED_TRIPLE, PAIR, LONE, TRIPLE]

OF_ANY = VALUES
OF_NUMBER = [ONE]
OF_WHOLE = [PAIR, LONE, TRIPLE]
OF_PAIR = [PAIR, TRIPLE]
OF_RAW = [RAW, HALF, OTHER_HALF, FILLED, PAIR]
OF_RAW_TRIPLE = [RAW_TRIPLE, FILLED_TRIPLE, TRIPLE]

# Each sign with the values that may stand at each spot that it asks for.
SPOTS = [
    (("push", 1), []), (("load", 0), []), (("jump", 0), []), (("make", 1), []), (("call", 1), []),
    (("store", 0), [OF_ANY]), (("dup",), [OF_ANY]), (("drop",), [OF_ANY]), (("swap",), [OF_ANY, OF_ANY]),
    (("add",), [OF_NUMBER] * 2), (("sub",), [OF_NUMBER] * 2), (("mul",), [OF_NUMBER] * 2),
    (("div",), [OF_NUMBER] * 2), (("rem",), [OF_NUMBER] * 2), (("less",), [OF_NUMBER] * 2),
    (("same",), [OF_NUMBER] * 2), (("zero", 0), [OF_NUMBER]), (("toss",), [OF_NUMBER]), (("say",), [OF_NUMBER]),
    (("give",), [OF_NUMBER]), (("kin", 3, 0), [OF_WHOLE]),
    (("fill", 1, 0), [OF_RAW, OF_NUMBER]), (("fill", 1, 1), [OF_RAW, OF_ANY]),
    (("fill", 2, 0), [OF_RAW_TRIPLE, OF_NUMBER]), (("fill", 2, 2), [OF_RAW_TRIPLE, OF_PAIR]),
    (("begin", 1), [[FILLED, PAIR]]), (("begin", 2), [[FILLED_TRIPLE, TRIPLE]]), (("begin", 3), [[RAW_LONE, LONE]]),
    (("get", 1, 0), [OF_PAIR]), (("get", 2, 0), [[TRIPLE]]),
    (("put", 1, 0), [OF_PAIR, OF_NUMBER]), (("put", 1, 1), [OF_PAIR, OF_ANY]), (("put", 2, 2), [[TRIPLE], OF_PAIR]),
    (("call", 2), [OF_NUMBER, OF_PAIR, OF_RAW]), (("call", 3), [[HALF, FILLED, PAIR], [LONE]]),
]
END = [("push", 0), ("toss",)]
OTHERS = [
    ([], NUMBER, 0, 1, END, []),
    ([NUMBER, ("whole", 1), ("raw", 1, 0)], NUMBER, 3, 1, END, []),
    ([("raw", 1, 1), ("whole", 3)], NUMBER, 2, 1, END, []),
]


def joined_rows(lists):
    return [row for rows in lists for row in rows]


class LookCase(unittest.TestCase):
    # Runs a row behind others; the other parts can be called.
    def looked(self, ahead, row, height=8, budget=50, stretches=()):
        book = (run_makes(), [door(ahead + [row] + END, height=height, stretches=stretches)] + OTHERS)
        check_book(book)
        machine = Watched(book, 0, [], budget)
        for k in range(len(ahead)):
            machine.step()
        self.assertEqual((machine.told()[0], machine.frames()[-1][:2]), (None, (0, len(ahead))), (ahead, row))
        machine.step()
        return machine.told()

    def assert_look(self, word, ahead, row, **more):
        told = self.looked(ahead, row, **more)
        self.assertEqual(told, (("look", 0, len(ahead), word), [], more.get("budget", 50)), (ahead, row))

    def assert_done(self, ahead, row, **more):
        told = self.looked(ahead, row, **more)
        self.assertTrue(told[0] is None or told[0][0] in ("gave", "fault"), (ahead, row, told))


class TestLooks(LookCase):
    def test_every_sign_is_asked(self):
        self.assertEqual(len({row[0] for row, spots in SPOTS}), 25)

    def test_each_right_value(self):
        for row, spots in SPOTS:
            first = [values[0] for values in spots]
            self.assert_done(joined_rows(first), row)
            for spot, values in enumerate(spots):
                for value in values:
                    self.assert_done(joined_rows(first[:spot] + [value] + first[spot + 1:]), row)

    def test_each_wrong_value(self):
        for row, spots in SPOTS:
            first = [values[0] for values in spots]
            for spot, values in enumerate(spots):
                for value in VALUES:
                    if value not in values:
                        ahead = joined_rows(first[:spot] + [value] + first[spot + 1:])
                        self.assert_look("kind", ahead, row)
                        self.assert_look("kind", ONE + ahead, row)

    def test_too_few_values(self):
        for row, spots in SPOTS:
            for few in range(len(spots)):
                for values in ([spots[k][0] for k in range(few)], [spots[k + 1][0] for k in range(few)]):
                    self.assert_look("empty", joined_rows(values), row)

    def test_too_few_goes_ahead_of_kind(self):
        for row, spots in SPOTS:
            for few in range(1, len(spots)):
                for value in VALUES:
                    self.assert_look("empty", joined_rows([value] * few), row)

    def test_too_high(self):
        for row in (("push", 1), ("load", 2), ("make", 1), ("dup",), ("call", 1)):
            for height in range(1, 9):
                self.assert_look("high", ONE * height, row, height=height)
                if height > 1:
                    self.assert_done(ONE * (height - 1), row, height=height)
        for row in (("push", 1), ("load", 2), ("make", 1), ("call", 1)):
            self.assert_done([], row, height=1)

    def test_a_full_stack_that_grows_no_higher(self):
        for row, spots in SPOTS:
            if row[0] not in ("push", "load", "make", "dup") and row != ("call", 1):
                kept = joined_rows([values[0] + [("store", spot)] for spot, values in enumerate(spots)])
                loads = [("load", spot) for spot in range(len(spots))]
                self.assert_done(kept + ONE * (8 - len(spots)) + loads, row)

    def test_a_box_that_nothing_was_put_into(self):
        self.assert_done([("load", 2)], ("store", 1))
        machine = Watched(book_of(door([("load", 2), ("store", 0)] + END, takes=1)), 0, [5], 0)
        machine.step()
        machine.step()
        self.assertEqual(machine.frames(), [(0, 2, (None, None, None), ())])


class TestWhatGoesAhead(LookCase):
    def test_of_a_fault_by_nought(self):
        for sign in ("div", "rem"):
            self.assert_look("kind", RAW + [("push", 0)], (sign,))
            self.assert_look("empty", [("push", 0)], (sign,))
            self.assert_look("kind", [("push", 0)] + RAW, (sign,))

    def test_of_a_toss(self):
        self.assert_look("kind", PAIR, ("toss",))
        self.assert_look("empty", [], ("toss",))

    def test_of_the_budget(self):
        self.assert_look("empty", [], ("call", 2), budget=0)
        self.assert_look("kind", ONE * 3, ("call", 2), budget=0)
        self.assert_look("high", ONE, ("call", 1), height=1, budget=0)
        self.assert_look("kind", NOTHING, ("zero", 0), budget=0)
        self.assert_look("empty", [], ("kin", 0, 0), budget=0)
        self.assertEqual(self.looked(ONE, ("call", 1), height=2, budget=0), (("weary",), [], 0))

    def test_of_a_call_where_there_are_twelve_frames(self):
        # Part 1 takes a number and calls itself with one less, and with 0 does the row that looks.
        for row, word in ((("call", 3), "empty"), (("call", 2), "kind"), (("call", 0), "high")):
            rows = [("load", 0), ("zero", 7), ("load", 0), ("push", -1), ("add",), ("call", 1), ("give",),
                    ("push", 1), row, ("give",)]
            if word == "high":
                rows[8:8] = [("push", 1)]
            deep = ([NUMBER], NUMBER, 1, 2, rows, [])
            record_one = ([("whole", 1)], NUMBER, 1, 1, END, [])
            pair = ([NUMBER, NUMBER], NUMBER, 2, 1, END, [])
            book = book_of(door([("push", 10), ("call", 1), ("give",)]), deep, record_one, pair)
            check_book(book)
            for budget in (11, 50):
                machine = Watched(book, 0, [], budget)
                while machine.told()[0] is None:
                    frames = len(machine.frames())
                    machine.step()
                self.assertEqual(frames, 12)
                self.assertEqual(machine.told(), (("look", 1, rows.index(row), word), [], budget - 11))

    def test_the_twelfth_call_that_looks_at_nothing_is_a_fault(self):
        deep = ([], NUMBER, 0, 1, [("call", 1), ("give",)], [])
        machine = Watched(book_of(door([("call", 1), ("give",)]), deep), 0, [], 50)
        while machine.told()[0] is None:
            machine.step()
        self.assertEqual(machine.told(), (("fault", 2), [], 38))

    def test_a_faults_number_has_room(self):
        zeros = [("push", 0)] * 2
        for ahead, row in ((ONE, ("toss",)), (zeros, ("div",)), (zeros, ("rem",))):
            at = len(ahead)
            told = self.looked(ahead, row, height=max(1, at), stretches=[(at, at + 1, at + 2)])
            self.assertEqual(told, (None, [], 50))


class TestHowItEnds(LookCase):
    def test_the_row_is_not_done(self):
        book = book_of(door([("push", 3), ("say",)] + PAIR + [("say",)] + END))
        machine = Watched(book, 0, [], 4)
        for k in range(12):
            machine.step()
        self.assertEqual(machine.told(), (("look", 0, 8, "kind"), [3], 4))

    def test_of_a_part_that_is_called(self):
        called = ([NUMBER], ("whole", 1), 1, 2, [("load", 0), ("say",)] + LONE + [("give",)], [])
        book = book_of(door([("push", 7), ("push", 6), ("call", 1), ("drop",), ("give",)]), called)
        check_book(book)
        machine = Watched(book, 0, [], 4)
        for k in range(8):
            self.assertIsNone(machine.told()[0])
            machine.step()
        self.assertEqual(machine.told(), (("look", 1, 4, "kind"), [6], 3))

    def test_it_is_not_caught(self):
        for row, word in ((("add",), "empty"), (("div",), "empty"), (("toss",), "empty"), (("call", 2), "empty")):
            self.assert_look(word, [], row, stretches=[(0, 3, 0)])
        for row in (("toss",), ("say",), ("call", 3)):
            self.assert_look("kind", PAIR + PAIR, row, stretches=[(0, 15, 0)])
        self.assert_look("high", ONE, ("call", 1), height=1, stretches=[(0, 3, 2)])

    def test_of_a_called_part_it_is_not_caught_beneath(self):
        called = ([], NUMBER, 0, 1, [("drop",)] + END, [(0, 1, 1)])
        book = book_of(door([("call", 1), ("give",)], stretches=[(0, 1, 1)]), called)
        check_book(book)
        machine = Watched(book, 0, [], 4)
        machine.step()
        machine.step()
        self.assertEqual(machine.told(), (("look", 1, 0, "empty"), [], 3))

    def test_it_stays_so(self):
        book = book_of(door([("push", 3), ("say",), ("drop",)] + END))
        machine = Watched(book, 0, [], 4)
        for k in range(3):
            machine.step()
        told = machine.told()
        self.assertEqual(told, (("look", 0, 2, "empty"), [3], 4))
        for k in range(5):
            self.assertIsNone(machine.step())
            self.assertEqual(machine.told(), told)

    def test_only_rows_that_are_come_to_are_looked_at(self):
        book = book_of(door([("push", 3), ("give",), ("drop",), ("add",), ("give",)], height=1))
        machine = Watched(book, 0, [], 0)
        machine.step()
        machine.step()
        self.assertEqual(machine.told(), (("gave", 3), [], 0))

    def test_any_value_may_be_given_and_taken_as_any(self):
        same = ([ANY], ANY, 1, 1, [("load", 0), ("give",)], [])
        for value, heap in ((NOTHING, []), (ONE, []), (PAIR, [PAIR_MADE]), (LONE, [LONE_MADE]),
                            (TRIPLE, [TRIPLE_MADE, PAIR_MADE])):
            machine = Watched(book_of(door(value + [("call", 1), ("drop",)] + END), same), 0, [], 1)
            for k in range(len(value)):
                machine.step()
            stack = machine.frames()[-1][3]
            for k in range(3):
                machine.step()
            self.assertEqual(machine.frames(), [(0, len(value) + 1, (None,) * 3, stack)])
            self.assertEqual(machine.heap(), heap)


if __name__ == "__main__":
    unittest.main()
