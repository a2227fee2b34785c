import copy
import unittest

from samples import (ANY, BOXES, CASES, NUMBER, PAIR, PAIR_MADE, TRIPLE, bare_frames, bare_heap, case_book, door,
                     number, record, run_makes)
from stackwarden.books import check_book
from stackwarden.errors import NoDoor
from stackwarden.plain import Plain
from stackwarden.rows import SIGNS
from stackwarden.warden import warded


def book_of(*parts):
    return (run_makes(), list(parts))


# A part that gives what it takes, and one that tosses it.
SAME = ([NUMBER], NUMBER, 1, 1, [("load", 0), ("give",)], [])
TOSSES = ([NUMBER], NUMBER, 1, 1, [("load", 0), ("toss",)], [])


# Of both machines: what is expected is written as the watched one tells it.
class MachineTests:
    # The plain machine is promised only for books that are let by.
    def begin(self, book, part, inputs, budget, steps=0):
        check_book(book)
        warded(book)
        machine = self.machine(book, part, inputs, budget)
        for k in range(steps):
            self.assertIsNone(machine.told()[0])
            self.assertIsNone(machine.step())
        return machine

    def assert_frames(self, machine, expected):
        told = machine.frames()
        self.assertIs(type(told), list)
        self.assertEqual(told, self.seen_frames(expected))

    def assert_heap(self, machine, expected):
        told = machine.heap()
        self.assertIs(type(told), list)
        self.assertEqual(told, self.seen_heap(expected))

    def assert_ends(self, book, part, inputs, budget, end, said, left):
        machine = self.begin(book, part, inputs, budget)
        while machine.told()[0] is None:
            machine.step()
        self.assertEqual(machine.told(), (end, said, left))
        return machine

    def assert_end(self, rows, end, left=50, stretches=(), others=(), said=(), budget=50):
        book = book_of(door(rows, stretches=stretches), *others)
        self.assert_ends(book, 0, [], budget, end, list(said), left)


class RowTests(MachineTests):
    def test_every_sign_is_asked(self):
        signs = {told["row"][0] for told in CASES} | {"call", "toss", "give"}
        self.assertEqual(signs, set(SIGNS))

    def test_each_row_by_itself(self):
        for told in CASES:
            at = len(told["ahead"])
            with self.subTest(row=told["row"], ahead=told["ahead"]):
                machine = self.begin(case_book(told), 0, [7, -3], 0, at)
                self.assert_frames(machine, [(0, at, told["boxes"], told["before"])])
                self.assert_heap(machine, told["heap"])
                self.assertEqual(machine.told(), (None, told["said"], 0))
                machine.step()
                self.assert_frames(machine, [(0, told["goes"], told["boxes_after"], told["after"])])
                self.assert_heap(machine, told["heap_after"])
                self.assertEqual(machine.told(), (None, told["said_after"], 0))

    def test_the_start(self):
        for takes, boxes in ((0, 0), (0, 3), (1, 1), (2, 5), (8, 8)):
            words = [2147483647, 0, -2147483648, 5, 6, 7, 8, 9][:takes]
            book = book_of(SAME, door([("jump", 0)], takes=takes, boxes=boxes))
            machine = self.begin(book, 1, words, 10000)
            self.assert_frames(machine, [(1, 0, tuple(map(number, words)) + (None,) * (boxes - takes), ())])
            self.assert_heap(machine, [])
            self.assertEqual(machine.told(), (None, [], 10000))

    def test_two_boxes_hold_one_record(self):
        rows = PAIR + [("dup",), ("store", 0), ("store", 1), ("load", 0), ("push", 8), ("put", 1, 0), ("load", 1),
                       ("get", 1, 0), ("give",)]
        machine = self.begin(book_of(door(rows)), 0, [], 0, len(rows) - 1)
        self.assert_frames(machine, [(0, 14, (record(0), record(0), None), (number(8),))])
        self.assert_heap(machine, [(1, True, 3, (number(8), number(5)))])

    def test_records_are_numbered_as_they_are_made(self):
        rows = TRIPLE + [("drop",)] + PAIR + [("drop",), ("push", 0), ("give",)]
        machine = self.begin(book_of(door(rows)), 0, [], 0, len(rows) - 1)
        self.assert_heap(machine, [(2, True, 7, (number(6), None, record(1))), PAIR_MADE, PAIR_MADE])


class CallTests(MachineTests):
    def test_step_by_step(self):
        code = [("push", 5), ("load", 0), ("load", 2), ("swap",), ("give",)]
        called = ([NUMBER, ("whole", 3)], NUMBER, 3, 4, code, [])
        rows = [("push", 1), ("push", 2), ("make", 3), ("begin", 3), ("call", 1), ("add",), ("give",)]
        machine = self.begin(book_of(door(rows, boxes=1), called), 0, [], 7, 4)
        self.assert_frames(machine, [(0, 4, (None,), (number(1), number(2), record(0)))])
        below = (0, 4, (None,), (number(1),))
        boxes = (number(2), record(0), None)
        for at, stack in enumerate([(), (5,), (5, 2), (5, 2, None), (5, None, 2)]):
            stack = tuple(None if word is None else number(word) for word in stack)
            machine.step()
            self.assert_frames(machine, [below, (1, at, boxes, stack)])
            self.assertEqual(machine.told(), (None, [], 6))
        machine.step()
        self.assert_frames(machine, [(0, 5, (None,), (number(1), number(2)))])
        machine.step()
        self.assert_frames(machine, [(0, 6, (None,), (number(3),))])
        self.assert_heap(machine, [(3, True, 0, ())])
        machine.step()
        self.assertEqual(machine.told(), (("gave", 3), [], 6))

    def test_takes_none_and_many(self):
        none = ([], NUMBER, 2, 1, [("push", 4), ("give",)], [])
        machine = self.begin(book_of(door([("push", 1), ("call", 1), ("give",)], boxes=0), none), 0, [], 1, 2)
        self.assert_frames(machine, [(0, 1, (), (number(1),)), (1, 0, (None, None), ())])
        many = ([NUMBER] * 8, NUMBER, 8, 1, [("load", 0), ("give",)], [])
        rows = [("push", k) for k in range(8)] + [("call", 1), ("give",)]
        machine = self.begin(book_of(door(rows, boxes=0), many), 0, [], 1, 9)
        self.assert_frames(machine, [(0, 8, (), ()), (1, 0, tuple(map(number, range(8))), ())])

    def test_a_record_is_given(self):
        gives = ([], ("whole", 1), 0, 2, PAIR + [("give",)], [])
        rows = [("call", 1), ("get", 1, 0), ("give",)]
        machine = self.begin(book_of(door(rows, boxes=0), gives), 0, [], 1, 8)
        self.assert_frames(machine, [(0, 1, (), (record(0),))])
        self.assert_end(rows, ("gave", 4), left=49, others=[gives])

    def test_frames_of_one_part_have_their_own_boxes(self):
        # Part 1 takes n; gives 0 for 0, else n added to what it gives for n - 1.
        rows = [("load", 0), ("zero", 9), ("load", 0), ("push", -1), ("add",), ("call", 1), ("load", 0), ("add",),
                ("give",), ("push", 0), ("give",)]
        sums = ([NUMBER], NUMBER, 1, 2, rows, [])
        for n, end, left in ((0, ("gave", 0), 49), (4, ("gave", 10), 45), (10, ("gave", 55), 39),
                             (11, ("fault", 2), 38)):
            self.assert_end([("push", n), ("call", 1), ("give",)], end, left=left, others=[sums])

    def test_the_last_give(self):
        for word in (0, -1, 2147483647, -2147483648):
            self.assert_end([("push", 3), ("push", word), ("give",)], ("gave", word))

    def test_any_part_may_be_the_door(self):
        book = book_of(TOSSES, SAME)
        self.assert_ends(book, 1, [6], 0, ("gave", 6), [], 0)
        self.assert_ends(book, 0, [6], 0, ("fault", 6), [], 0)


class FaultTests(MachineTests):
    def test_caught_by_none(self):
        for word in (0, 1, 2, -1, 2147483647):
            self.assert_end([("push", word), ("toss",)], ("fault", word))
            self.assert_end([("push", word), ("call", 1), ("give",)], ("fault", word), left=49, others=[TOSSES])
        for sign in ("div", "rem"):
            for one in (0, 5):
                self.assert_end([("push", one), ("push", 0), (sign,), ("give",)], ("fault", 1))

    def test_a_stretch_that_has_not_the_place(self):
        rows = [("push", 3), ("toss",), ("push", 0), ("drop",), ("push", 9), ("give",)]
        for stretch in ((0, 1, 5), (2, 6, 5), (2, 3, 5)):
            self.assert_end(rows, ("fault", 3), stretches=[stretch])
        for stretch in ((1, 2, 5), (0, 2, 5), (1, 6, 5), (0, 6, 5)):
            self.assert_end(rows, ("gave", 3), stretches=[stretch])

    def test_caught_in_the_own_frame(self):
        for ahead, fault in (([("push", 0), ("div",)], 1), ([("push", 0), ("rem",)], 1), ([("toss",)], 6)):
            rows = [("push", 7), ("store", 1), ("push", 5), ("push", 6)] + ahead
            rows = rows + [("give",), ("say",), ("push", 0), ("give",)]
            at = 3 + len(ahead)
            book = book_of(door(rows, stretches=[(at, at + 1, at + 2)]))
            machine = self.begin(book, 0, [], 0, at + 1)
            self.assert_frames(machine, [(0, at + 2, (None, number(7), None), (number(fault),))])
            self.assertEqual(machine.told(), (None, [], 0))

    def test_caught_in_a_frame_beneath(self):
        # Part 0 catches what comes out of its call, part 1 has a stretch that has another place, part 2 has none.
        middle = ([NUMBER], NUMBER, 1, 3, [("load", 0), ("call", 2), ("give",), ("give",)], [(0, 1, 3), (2, 3, 3)])
        rows = [("push", 7), ("store", 1), ("push", 8), ("push", 9), ("call", 1), ("give",), ("store", 0), ("push", 0),
                ("give",)]
        book = book_of(door(rows, stretches=[(4, 5, 6)]), middle, TOSSES)
        machine = self.begin(book, 0, [], 2, 8)
        self.assert_frames(machine, [(0, 4, (None, number(7), None), (number(8),)), (1, 1, (number(9),), ()),
                                     (2, 1, (number(9),), (number(9),))])
        machine.step()
        self.assert_frames(machine, [(0, 6, (None, number(7), None), (number(9),))])
        self.assertEqual(machine.told(), (None, [], 0))

    def test_the_newest_that_catches(self):
        catches = ([], NUMBER, 0, 3, [("push", 4), ("toss",), ("push", 1), ("add",), ("give",)], [(1, 2, 2)])
        rows = [("call", 1), ("give",), ("push", 100), ("add",), ("give",)]
        self.assert_end(rows, ("gave", 5), left=49, stretches=[(0, 2, 2)], others=[catches])
        tosses = ([], NUMBER, 0, 3, [("push", 4), ("toss",)], [])
        self.assert_end(rows, ("gave", 104), left=49, stretches=[(0, 2, 2)], others=[tosses])

    def test_beneath_by_the_place_of_the_call(self):
        rows = [("push", 3), ("call", 1), ("give",), ("push", 1), ("add",), ("give",)]
        for stretch, end in (((0, 1, 3), ("fault", 3)), ((2, 6, 3), ("fault", 3)), ((1, 2, 3), ("gave", 4))):
            self.assert_end(rows, end, left=49, stretches=[stretch], others=[TOSSES])

    def test_the_first_of_several_stretches(self):
        rows = [("push", 3), ("toss",), ("push", 10), ("add",), ("give",), ("push", 20), ("add",), ("give",)]
        for stretches, end in (([(1, 2, 2), (0, 8, 5)], 13), ([(0, 8, 5), (1, 2, 2)], 23),
                               ([(2, 8, 2), (0, 1, 2), (0, 2, 5), (0, 3, 2)], 23)):
            self.assert_end(rows, ("gave", end), stretches=stretches)

    def test_a_fault_behind_a_catch(self):
        rows = [("push", 3), ("toss",), ("toss",), ("push", 50), ("add",), ("give",)]
        self.assert_end(rows, ("gave", 53), stretches=[(1, 2, 2), (2, 3, 3)])
        self.assert_end(rows, ("fault", 3), stretches=[(1, 2, 2)])

    def test_changes_stay(self):
        rows = PAIR + [("store", 0), ("load", 0), ("push", 8), ("put", 1, 0), ("push", 1), ("say",), ("push", 2),
                       ("store", 1), ("push", 3), ("toss",), ("drop",), ("load", 0), ("get", 1, 0), ("load", 1),
                       ("add",), ("give",)]
        self.assert_end(rows, ("gave", 10), stretches=[(15, 16, 16)], said=[1])

    def test_twelve_frames(self):
        # Part 1 calls itself for ever; each frame has a value beneath its call.
        deep = ([], NUMBER, 1, 2, [("push", 6), ("call", 1), ("give",)], [])
        book = book_of(door([("call", 1), ("give",)]), deep)
        machine = self.begin(book, 0, [], 50, 1 + 2 * 10 + 1)
        frames = [(0, 0, (None,) * 3, ())] + [(1, 1, (None,), (number(6),))] * 11
        self.assert_frames(machine, frames)
        self.assertEqual(machine.told(), (None, [], 39))
        machine.step()
        self.assertEqual(machine.told(), (("fault", 2), [], 38))

    def test_twelve_frames_are_caught(self):
        deep = ([], NUMBER, 1, 2, [("push", 6), ("call", 1), ("give",)], [])
        rows = [("call", 1), ("give",), ("push", 40), ("add",), ("give",)]
        self.assert_end(rows, ("gave", 42), left=38, stretches=[(0, 1, 2)], others=[deep])
        # Caught by the twelfth frame itself: then each give goes on in the one beneath.
        own = ([], NUMBER, 1, 2, [("push", 6), ("call", 1), ("add",), ("give",), ("give",)], [(1, 2, 4)])
        self.assert_end(rows, ("gave", 62), left=38, stretches=[], others=[own])

    def test_a_call_beside_twelve_frames(self):
        # Frames that have ended do not count.
        rows = [("push", 1), ("call", 1), ("drop",)] * 14 + [("push", 0), ("give",)]
        self.assert_end(rows, ("gave", 0), left=36, others=[SAME])


class BudgetTests(MachineTests):
    def assert_takes(self, rows, takes, end, stretches=(), others=()):
        for more in (0, 1, 7):
            self.assert_end(rows, end, budget=takes + more, left=more, stretches=stretches, others=others)
        for less in range(takes):
            self.assert_end(rows, ("weary",), budget=less, left=0, stretches=stretches, others=others)

    def test_what_takes_none(self):
        rows = [("push", 0), ("zero", 3), ("jump", 3), ("jump", 4), ("push", 1), ("zero", 0)] + PAIR + [
            ("kin", 1, 14), ("jump", 14), ("kin", 2, 12), ("drop",), ("push", 3), ("give",)]
        self.assert_takes(rows, 0, ("gave", 3))

    def test_a_catch_at_a_greater_place(self):
        self.assert_takes([("push", 1), ("toss",), ("give",)], 0, ("gave", 1), stretches=[(1, 2, 2)])

    def test_a_call_takes_one_and_a_give_none(self):
        rows = [("push", 1), ("call", 1), ("call", 1), ("call", 1), ("give",)]
        self.assert_takes(rows, 3, ("gave", 1), others=[SAME])

    def test_a_jump_back_and_on_the_spot(self):
        # The second turn leaves by zero.
        rows = [("push", 0), ("store", 0), ("jump", 4), ("give",), ("load", 0), ("push", 1), ("add",), ("store", 0),
                ("load", 0), ("push", 3), ("same",), ("zero", 4), ("load", 0), ("jump", 3)]
        self.assert_takes(rows, 3, ("gave", 3))
        self.assert_end([("jump", 0)], ("weary",), budget=5, left=0)
        self.assert_end([("jump", 0)], ("weary",), budget=0, left=0)

    def test_zero_back(self):
        self.assert_takes([("jump", 2), ("toss",), ("push", 4), ("push", 0), ("zero", 1), ("give",)], 1, ("fault", 4))
        self.assert_end([("push", 0), ("zero", 0), ("push", 0), ("give",)], ("weary",), budget=3, left=0)

    def test_kin_back(self):
        rows = [("jump", 4), ("drop",), ("push", 4), ("give",)] + PAIR
        rows = rows + [("kin", 0, 1), ("drop",), ("push", 0), ("give",)]
        self.assert_takes(rows, 1, ("gave", 4))
        rows[10] = ("kin", 3, 1)
        self.assert_takes(rows, 0, ("gave", 0))
        rows[10] = ("kin", 1, 10)
        self.assert_end(rows, ("weary",), budget=4, left=0)

    def test_a_catch_back(self):
        self.assert_takes([("jump", 2), ("give",), ("push", 4), ("toss",)], 1, ("gave", 4), stretches=[(3, 4, 1)])

    def test_a_catch_on_the_spot(self):
        self.assert_end([("push", 4), ("toss",)], ("weary",), budget=4, left=0, stretches=[(1, 2, 1)])
        self.assert_end([("push", 4), ("toss",)], ("weary",), budget=0, left=0, stretches=[(1, 2, 1)])

    def test_a_catch_beneath_is_held_against_the_place_of_the_call(self):
        # The callee's place is far behind that of the call, and then far ahead of it.
        far = ([], NUMBER, 0, 1, [("jump", 5)] * 5 + [("push", 4), ("toss",)], [])
        near = ([], NUMBER, 0, 1, [("push", 4), ("toss",)], [])
        self.assert_takes([("call", 1), ("give",), ("give",)], 1, ("gave", 4), stretches=[(0, 1, 2)], others=[far])
        rows = [("jump", 3), ("drop",), ("give",), ("push", 6), ("jump", 5), ("call", 1), ("give",)]
        self.assert_takes(rows, 2, ("gave", 4), stretches=[(5, 6, 2)], others=[near])
        self.assert_takes([("call", 1), ("give",)], 1, ("gave", 4), stretches=[(0, 1, 1)], others=[near])

    def test_a_call_that_is_a_fault_takes_its_one_first(self):
        deep = ([], NUMBER, 1, 2, [("push", 6), ("call", 1), ("give",)], [])
        self.assert_takes([("call", 1), ("give",)], 12, ("fault", 2), others=[deep])
        self.assert_takes([("call", 1), ("give",)], 12, ("gave", 2), others=[deep], stretches=[(0, 1, 1)])
        self.assert_takes([("jump", 2), ("give",), ("call", 1), ("give",)], 13, ("gave", 2), others=[deep],
                          stretches=[(2, 3, 1)])

    def test_words_said_ahead_stay(self):
        self.assert_end([("push", 5), ("say",), ("jump", 0)], ("weary",), budget=2, left=0, said=[5, 5, 5])
        self.assert_end([("push", 5), ("say",), ("push", 8), ("toss",)], ("fault", 8), said=[5])

    def test_the_budget_as_it_goes(self):
        machine = self.begin(book_of(door([("push", 1), ("drop",), ("jump", 0)])), 0, [], 2)
        lefts = []
        for k in range(9):
            lefts.append(machine.told()[2])
            machine.step()
        self.assertEqual(lefts, [2, 2, 2, 1, 1, 1, 0, 0, 0])
        self.assertEqual(machine.told(), (("weary",), [], 0))

    def test_the_greatest_budget(self):
        self.assert_end([("jump", 0)], ("weary",), budget=10000, left=0)


class EndTests(MachineTests):
    def test_an_ended_run_stays_so(self):
        ends = ([("push", 1), ("say",), ("push", 2), ("give",)], [("push", 1), ("say",), ("push", 2), ("toss",)],
                [("push", 1), ("say",), ("push", 0), ("dup",), ("div",), ("give",)],
                [("push", 1), ("say",), ("jump", 0)], [("push", 1), ("say",), ("call", 0), ("give",)])
        for rows in ends:
            machine = self.begin(book_of(door(rows)), 0, [], 0)
            while machine.told()[0] is None:
                machine.step()
            told = machine.told()
            for k in range(5):
                self.assertIsNone(machine.step())
                self.assertEqual(machine.told(), told)

    def test_a_run_that_goes_on_has_no_end(self):
        machine = self.begin(book_of(door([("jump", 0)])), 0, [], 3, 3)
        self.assertEqual(machine.told(), (None, [], 0))


class DoorTests(MachineTests):
    def assert_no_door(self, book, part, inputs):
        check_book(book)
        before = copy.deepcopy((book, inputs))
        for budget in (0, 10000):
            with self.assertRaises(NoDoor):
                self.machine(book, part, inputs, budget)
        self.assertEqual((book, inputs), before)

    def some_book(self):
        end = [("push", 0), ("toss",)]
        kinds = [ANY, ("whole", 0), ("whole", 3), ("raw", 1, 0), ("raw", 3, 0)]
        parts = [([], NUMBER, 0, 1, end, []), ([NUMBER, NUMBER], NUMBER, 2, 1, end, [])]
        parts = parts + [([NUMBER, NUMBER, kind], NUMBER, 3, 1, end, []) for kind in kinds[:3]]
        return (run_makes(), parts + [([NUMBER], kind, 1, 1, end, []) for kind in kinds[2:]])

    def test_of_another_kind(self):
        book = self.some_book()
        for part in (2, 3, 4):
            self.assert_no_door(book, part, [1, 2, 3])
        for part in (5, 6, 7):
            self.assert_no_door(book, part, [1])
        for kind in (ANY, ("whole", 0)):
            self.assert_no_door((run_makes(), [([kind], NUMBER, 1, 1, [("jump", 0)], [])]), 0, [1])
            self.assert_no_door((run_makes(), [([], kind, 1, 1, [("jump", 0)], [])]), 0, [])
            self.assert_no_door((run_makes(), [([kind, NUMBER], NUMBER, 2, 1, [("jump", 0)], [])]), 0, [1, 1])

    def test_no_part(self):
        for part in (-1, -8, 8, 9, 100, -10 ** 30, 10 ** 30):
            self.assert_no_door(self.some_book(), part, [])
            self.assert_no_door(self.some_book(), part, [1])
        self.assert_no_door(book_of(SAME), 1, [1])
        self.assert_no_door(book_of(SAME), -1, [1])

    def test_number_of_inputs(self):
        for part, takes in ((0, 0), (1, 2)):
            for many in range(9):
                if many != takes:
                    self.assert_no_door(self.some_book(), part, [1] * many)

    def test_doors(self):
        self.assert_ends(self.some_book(), 0, [], 0, ("fault", 0), [], 0)
        self.assert_ends(self.some_book(), 1, [1, 2147483647], 10000, ("fault", 0), [], 10000)


def kept_book():
    called = ([NUMBER], NUMBER, 1, 2, [("load", 0), ("push", 0), ("div",), ("give",)], [(2, 3, 3)])
    rows = PAIR + [("get", 1, 0), ("call", 1), ("say",), ("load", 0), ("give",)]
    return book_of(door(rows, takes=1), called)


class KeepingTests(MachineTests):
    def spoil(self, book):
        for takes, gives, boxes, height, rows, stretches in book[1]:
            takes.append(NUMBER)
            rows[:] = [("push", 99), ("give",)]
            stretches.clear()
        for elder, kinds in book[0]:
            kinds.clear()
        book[0].clear()
        book[1].clear()

    def test_nothing_handed_in_is_changed(self):
        book = kept_book()
        inputs = [5]
        self.assert_ends(book, 0, inputs, 9, ("gave", 5), [1], 8)
        self.assertEqual((book, inputs), (kept_book(), [5]))

    def test_changed_behind(self):
        for steps in range(15):
            book = kept_book()
            inputs = [5]
            machine = self.begin(book, 0, inputs, 9, steps)
            inputs[0] = 6
            inputs.append(7)
            self.spoil(book)
            while machine.told()[0] is None:
                machine.step()
            self.assertEqual(machine.told(), (("gave", 5), [1], 8))

    def test_what_is_told_is_new(self):
        machine = self.begin(kept_book(), 0, [5], 9)
        while machine.told()[0] is None:
            before = copy.deepcopy((machine.told(), machine.frames(), machine.heap()))
            self.assertIs(type(machine.told()), tuple)
            machine.told()[1].append(99)
            machine.frames().pop()
            machine.heap().append((0, ()))
            machine.heap().clear()
            self.assertEqual((machine.told(), machine.frames(), machine.heap()), before)
            self.assertEqual([type(thing) for frame in machine.frames() for thing in frame[2:]],
                             [tuple] * 2 * len(machine.frames()))
            machine.step()
        machine.told()[1].append(99)
        self.assertEqual(machine.told(), (("gave", 5), [1], 8))

    def test_what_was_told_stays(self):
        machine = self.begin(kept_book(), 0, [5], 9)
        kept = []
        while machine.told()[0] is None:
            now = (machine.told(), machine.frames(), machine.heap())
            kept.append((now, copy.deepcopy(now)))
            machine.step()
        for now, then in kept:
            self.assertEqual(now, then)

    def test_machines_do_not_share(self):
        book = kept_book()
        one = self.begin(book, 0, [5], 9, 8)
        other = self.begin(book, 0, [6], 3)
        self.assert_frames(other, [(0, 0, (number(6),) + BOXES[2:] * 2, ())])
        self.assert_heap(other, [])
        self.assert_heap(one, [PAIR_MADE])


class AsPlain:
    machine = Plain

    def seen_frames(self, frames):
        return bare_frames(frames)

    def seen_heap(self, heap):
        return bare_heap(heap)


class TestRows(AsPlain, RowTests, unittest.TestCase):
    pass


class TestCalls(AsPlain, CallTests, unittest.TestCase):
    pass


class TestFaults(AsPlain, FaultTests, unittest.TestCase):
    pass


class TestBudget(AsPlain, BudgetTests, unittest.TestCase):
    pass


class TestEnds(AsPlain, EndTests, unittest.TestCase):
    pass


class TestDoors(AsPlain, DoorTests, unittest.TestCase):
    pass


class TestKeeping(AsPlain, KeepingTests, unittest.TestCase):
    pass


class TestPlainValues(unittest.TestCase):
    def test_by_hand(self):
        rows = [("make", 2), ("push", 6), ("fill", 2, 0), ("store", 1), ("load", 2), ("push", 7), ("give",)]
        machine = Plain(book_of(door(rows, takes=1)), 0, [5], 0)
        self.assertEqual(machine.frames(), [(0, 0, (5, 0, 0), ())])
        self.assertEqual(machine.heap(), [])
        for expected, heap in (((0, 1, (5, 0, 0), (0,)), (2, (0, 0, 0))), ((0, 2, (5, 0, 0), (0, 6)), (2, (0, 0, 0))),
                               ((0, 3, (5, 0, 0), (0,)), (2, (6, 0, 0))), ((0, 4, (5, 0, 0), ()), (2, (6, 0, 0))),
                               ((0, 5, (5, 0, 0), (0,)), (2, (6, 0, 0))), ((0, 6, (5, 0, 0), (0, 7)), (2, (6, 0, 0)))):
            machine.step()
            self.assertEqual((machine.frames(), machine.heap()), ([expected], [heap]))
        machine.step()
        self.assertEqual(machine.told(), (("gave", 7), [], 0))

    def test_a_record_is_its_number(self):
        machine = Plain(book_of(door([("make", 3), ("make", 1), ("make", 3), ("push", 0), ("give",)])), 0, [], 0)
        for k in range(3):
            machine.step()
        self.assertEqual(machine.frames(), [(0, 3, (0, 0, 0), (0, 1, 2))])
        self.assertEqual(machine.heap(), [(3, ()), (1, (0, 0)), (3, ())])

    def test_begin_does_nothing(self):
        machine = Plain(book_of(door(PAIR + [("push", 0), ("give",)])), 0, [], 0)
        for k in range(5):
            machine.step()
        heap = machine.heap()
        machine.step()
        self.assertEqual((machine.heap(), heap), ([(1, (4, 5))], [(1, (4, 5))]))
        self.assertEqual(machine.frames(), [(0, 6, (0, 0, 0), (0,))])


if __name__ == "__main__":
    unittest.main()
