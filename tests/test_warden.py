import copy
import unittest

from samples import (ANY, CASES, END, NUMBER, PAIR, TURN, BookMaker, all_kinds, case_book, door, explored, lone,
                     run_makes, some_makes)
from stackwarden.books import check_book
from stackwarden.errors import NoPass, WardenError
from stackwarden.kinds import joined
from stackwarden.stands import stand_joined
from stackwarden.warden import stands, warded


# What the warden should tell, by all the ways gone along one by one.
def joined_ways(book, part):
    found, refusals, whole = explored(book, part)
    if refusals:
        return None, refusals, whole
    told = []
    for some in found:
        stand = None
        for other in sorted(some):
            stand = other if stand is None else stand_joined(book[0], stand, other)
        told.append(stand)
    return told, refusals, whole


class WardenCase(unittest.TestCase):
    def assert_stands(self, book, expected):
        check_book(book)
        before = copy.deepcopy(book)
        told = stands(book, 0)
        self.assertEqual(told, expected)
        self.assertEqual(warded(book)[0], expected)
        self.assertEqual(book, before)
        return told

    def assert_refused(self, book, *refusals):
        check_book(book)
        before = copy.deepcopy(book)
        for tells in (lambda: stands(book, 0), lambda: warded(book)):
            with self.assertRaises(NoPass) as caught:
                tells()
            refusal = caught.exception
            self.assertIsInstance(refusal, WardenError)
            self.assertEqual(refusal.part, 0)
            self.assertIn((refusal.at, refusal.word), refusals)
        self.assertEqual(book, before)
        self.assertEqual(explored(book, 0)[1], set(refusals))


class TestStraight(WardenCase):
    def test_numbers(self):
        boxes = (NUMBER, ANY)
        self.assert_stands(lone([("load", 0), ("push", 1), ("add",), ("store", 1), ("load", 1), ("give",)], [NUMBER]), [
            (boxes, ()), (boxes, (NUMBER,)), (boxes, (NUMBER, NUMBER)), (boxes, (NUMBER,)), ((NUMBER, NUMBER), ()),
            ((NUMBER, NUMBER), (NUMBER,))])

    def test_one_row(self):
        self.assert_stands(lone([("jump", 0)], boxes=0), [((), ())])

    def test_records(self):
        rows = PAIR + [("dup",), ("store", 0), ("get", 1, 0), ("give",)]
        one = ((ANY,), ())
        kept = (("whole", 1),)
        self.assert_stands(lone(rows, boxes=1, makes=run_makes()), [
            one, ((ANY,), (("raw", 1, 0),)), ((ANY,), (("raw", 1, 0), NUMBER)), ((ANY,), (("raw", 1, 1),)),
            ((ANY,), (("raw", 1, 1), NUMBER)), ((ANY,), (("raw", 1, 3),)), ((ANY,), (("whole", 1),)),
            ((ANY,), (("whole", 1), ("whole", 1))), (kept, kept), (kept, (NUMBER,))])

    def test_no_way_comes_there(self):
        rows = [("jump", 3), ("add",), ("drop",), ("push", 1), ("give",), ("dup",), ("toss",), ("jump", 1)]
        start = ((ANY,), ())
        self.assert_stands(lone(rows, boxes=1, height=1),
                           [start, None, None, start, ((ANY,), (NUMBER,)), None, None, None])

    def test_behind_jump_toss_and_give(self):
        for rows in ([("push", 0), ("jump", 3), ("add",), ("toss",)], [("push", 0), ("toss",), ("add",), ("toss",)],
                     [("push", 0), ("give",), ("add",), ("toss",)]):
            told = stands(lone(rows), 0)
            self.assertIsNone(told[2])
            self.assertEqual(told[3] is None, rows[1][0] != "jump")

    def test_a_stretch_that_catches_nothing(self):
        rows = [("push", 0), ("drop",), ("push", 0), ("give",), ("toss",)]
        told = stands(lone(rows, stretches=[(0, 4, 4)]), 0)
        self.assertIsNone(told[4])

    def test_each_row_of_the_machines_tests(self):
        for told in CASES:
            self.assertEqual(len(warded(case_book(told))), 1)


class TestJoins(WardenCase):
    def test_each_pair_of_kinds_in_a_box(self):
        rows = [("load", 0), ("zero", 5), ("load", 1), ("store", 3), ("jump", 7), ("load", 2), ("store", 3)] + END
        makes = some_makes()
        for kind in all_kinds():
            for other in all_kinds():
                told = stands(lone(rows, [NUMBER, kind, other], boxes=4), 0)
                self.assertEqual(told[7], ((NUMBER, kind, other, joined(makes, kind, other)), ()))

    def test_each_pair_of_kinds_on_the_stack(self):
        rows = [("push", 7), ("load", 0), ("zero", 5), ("load", 1), ("jump", 6), ("load", 2)] + END
        makes = some_makes()
        for kind in all_kinds()[::5]:
            for other in all_kinds():
                told = stands(lone(rows, [NUMBER, kind, other]), 0)
                self.assertEqual(told[6], ((NUMBER, kind, other), (NUMBER, joined(makes, kind, other))))

    def test_by_hand(self):
        rows = [("load", 0), ("zero", 4), ("load", 1), ("jump", 5), ("load", 2)] + END
        for kind, other, expected in (
                (NUMBER, NUMBER, NUMBER), (NUMBER, ANY, ANY), (NUMBER, ("whole", 0), ANY),
                (("whole", 5), ("whole", 4), ("whole", 1)), (("whole", 6), ("whole", 3), ("whole", 0)),
                (("whole", 5), ("whole", 3), ("whole", 3)), (("raw", 5, 6), ("raw", 5, 3), ("raw", 5, 2)),
                (("raw", 3, 1), ("raw", 5, 1), ANY), (("raw", 7, 0), ("whole", 7), ANY)):
            told = stands(lone(rows, [NUMBER, kind, other]), 0)
            self.assertEqual(told[5], ((NUMBER, kind, other), (expected,)))

    def test_three_ways(self):
        rows = [("load", 0), ("zero", 6), ("load", 0), ("zero", 8), ("load", 1), ("jump", 9), ("load", 2), ("jump", 9),
                ("load", 3)] + END
        told = stands(lone(rows, [NUMBER, ("whole", 5), ("whole", 3), ("whole", 4)]), 0)
        self.assertEqual(told[9][1], (("whole", 1),))

    def test_kin_by_both_ways(self):
        rows = [("load", 0), ("kin", 3, 3), ("jump", 4), ("jump", 4), ("drop",)] + END
        boxes = (("whole", 1),)
        told = self.assert_stands(lone(rows, boxes, boxes=1), [
            (boxes, ()), (boxes, (("whole", 1),)), (boxes, (("whole", 1),)), (boxes, (("whole", 3),)),
            (boxes, (("whole", 1),)), (boxes, ()), (boxes, (NUMBER,))])
        self.assertIs(type(told), list)

    def test_an_unlike_kind_is_only_wrong_where_it_is_asked_for(self):
        rows = [("load", 0), ("zero", 4), ("load", 1), ("jump", 5), ("load", 2)]
        takes = [NUMBER, NUMBER, ("whole", 1)]
        self.assertIsNotNone(stands(lone(rows + [("drop",)] + END, takes), 0))
        self.assert_refused(lone(rows + [("say",)] + END, takes), (5, "kind"))
        self.assert_refused(lone(rows + [("give",)], takes), (5, "kind"))


class TestLoops(WardenCase):
    def test_a_box_that_changes(self):
        # Place 0 is come to with any in box 1, then with a number.
        rows = [("load", 0), ("store", 1), ("load", 0), ("zero", 0)] + END
        boxes = (NUMBER, ANY)
        both = (NUMBER, NUMBER)
        self.assert_stands(lone(rows, [NUMBER]), [
            (boxes, ()), (boxes, (NUMBER,)), (both, ()), (both, (NUMBER,)), (both, ()), (both, (NUMBER,))])

    def test_a_loop_that_spoils_what_it_asks_for(self):
        takes = [NUMBER, NUMBER, ("whole", 1)]
        rows = [("load", 1), ("say",), ("load", 2), ("store", 1), ("load", 0), ("zero", 0)] + END
        self.assert_refused(lone(rows, takes), (1, "kind"))
        rows[2] = ("load", 0)
        self.assertIsNotNone(stands(lone(rows, takes), 0)[6])

    def test_boxes_that_turn_about(self):
        rows = TURN + [("push", 1), ("zero", 0)] + END
        for takes, expected in (([NUMBER] * 8, NUMBER), ([NUMBER] * 7, ANY), ([NUMBER] * 7 + [("whole", 1)], ANY),
                                ([("whole", c) for c in (5, 5, 5, 3, 3, 3, 5, 4)], ("whole", 1)),
                                ([("whole", 5)] * 7 + [("whole", 3)], ("whole", 3)),
                                ([("raw", 5, 63 - (1 << k)) for k in (0, 1, 2, 3, 4, 5, 5, 5)], ("raw", 5, 0)),
                                ([("raw", 5, 63 - (1 << k)) for k in (1, 1, 1, 1, 1, 1, 4, 4)], ("raw", 5, 45))):
            told = stands(lone(rows, takes, boxes=8), 0)
            self.assertEqual(told[0], ((expected,) * 8, ()))
            self.assertEqual(told[16], ((expected,) * 8, ()))

    def test_what_comes_round_late(self):
        # The whole starts in a box from which it comes to box 0 in so many turns.
        for b in range(1, 8):
            takes = [NUMBER] * 8
            takes[b] = ("whole", 1)
            rows = [("load", 0), ("say",)] + TURN + [("push", 1), ("zero", 0)] + END
            self.assert_refused(lone(rows, takes, boxes=8), (1, "kind"))
        self.assertIsNotNone(stands(lone(rows, [NUMBER] * 8, boxes=8), 0))

    def test_turns_that_lie_within_one_another(self):
        swap = [("load", 0), ("load", 1), ("store", 0), ("store", 1)]
        rows = TURN + [("push", 1), ("zero", 0)] + swap + [("push", 1), ("zero", 18), ("push", 1), ("zero", 0)] + END
        takes = [NUMBER] * 7 + [("whole", 7)]
        told, refusals, whole = joined_ways(lone(rows, takes, boxes=8), 0)
        self.assertTrue(whole)
        self.assert_stands(lone(rows, takes, boxes=8), told)

    def test_a_record_filled_in_a_loop(self):
        # Two turns through the loop, each of which fills one field or the other.
        rows = [("make", 1), ("store", 0), ("load", 0), ("push", 4), ("fill", 1, 0), ("store", 0), ("push", 1),
                ("zero", 2), ("load", 0), ("push", 4), ("fill", 1, 1), ("begin", 1), ("get", 1, 0), ("give",)]
        told = stands(lone(rows, boxes=1, makes=run_makes()), 0)
        self.assertEqual((told[2], told[8]), (((("raw", 1, 0),), ()), ((("raw", 1, 1),), ())))
        rows[7] = ("zero", 8)
        self.assertIsNotNone(stands(lone(rows, boxes=1, makes=run_makes()), 0))
        rows[4] = ("fill", 1, 1)
        self.assert_refused(lone(rows[:10] + [("fill", 1, 1)] + rows[11:], boxes=1, makes=run_makes()), (11, "kind"))

    def test_a_hundred_rows(self):
        rows = ([("load", 0), ("store", 1)] * 49)[:97] + [("drop",)]
        rows[96] = ("load", 0)
        rows = rows + [("push", 0), ("give",)]
        self.assertEqual(len(rows), 100)
        told = stands(lone(rows, [NUMBER]), 0)
        self.assertEqual((len(told), told[99]), (100, ((NUMBER, NUMBER), (NUMBER,))))

    def test_a_hundred_rows_with_many_loops(self):
        rows = TURN * 4
        while len(rows) < 96:
            rows = rows + [("push", 1), ("zero", (len(rows) // 2 * 16) % 64)]
        rows = rows + [("push", 1), ("zero", 0)] + END
        self.assertEqual(len(rows), 100)
        takes = [("raw", 5, 63 - (1 << k)) for k in range(6)] + [("raw", 5, 63)] * 2
        told = stands(lone(rows, takes, boxes=8), 0)
        self.assertEqual(told[0], ((("raw", 5, 0),) * 8, ()))
        self.assert_refused(lone(rows[:98] + [("load", 0), ("toss",)], takes, boxes=8), (99, "kind"))

    def test_the_slowest_joins(self):
        # Each of the eight boxes goes down a line of eight makes, one make a turn.
        makes = [(None, [])] + [(c, []) for c in range(7)]
        rows = TURN + [("push", 1), ("zero", 0)] + END
        told = stands(lone(rows, [("whole", c) for c in range(7, -1, -1)], boxes=8, makes=makes), 0)
        self.assertEqual(told[0], ((("whole", 0),) * 8, ()))


class TestCatches(WardenCase):
    def test_by_each_row_that_may_be_a_fault(self):
        pair = [("push", 1), ("push", 2)]
        for ahead in (pair + [("div",)], pair + [("rem",)], [("push", 1), ("call", 0)]):
            at = len(ahead)
            rows = [("push", 8)] + ahead + [("drop",), ("drop",), ("push", 0), ("give",), ("give",)]
            book = lone(rows, stretches=[(at, at + 1, at + 5)], boxes=1)
            self.assertEqual(stands(book, 0)[at + 5], ((ANY,), (NUMBER,)))
            self.assertEqual(stands(lone(rows, boxes=1), 0)[at + 5], None)
        self.assertEqual(stands(lone([("push", 1), ("toss",), ("give",)], stretches=[(1, 2, 2)], boxes=1), 0)[2],
                         ((ANY,), (NUMBER,)))

    def test_the_boxes_of_all_the_places_are_joined(self):
        rows = [("push", 1), ("push", 2), ("div",), ("drop",), ("load", 0), ("store", 1), ("push", 1), ("push", 2),
                ("div",), ("give",), ("give",)]
        for stretches, expected in (([(0, 10, 10)], ANY), ([(8, 9, 10)], NUMBER), ([(2, 3, 10)], ANY)):
            told = stands(lone(rows, [NUMBER], stretches=stretches), 0)
            self.assertEqual(told[10], ((NUMBER, expected), (NUMBER,)))

    def test_a_catch_by_which_a_row_breaks(self):
        rows = [("push", 1), ("push", 2), ("div",), ("store", 1), ("push", 0), ("load", 1), ("say",), ("give",)]
        self.assert_refused(lone(rows, stretches=[(2, 3, 5)]), (6, "kind"))
        self.assertIsNotNone(stands(lone(rows, stretches=[(3, 6, 5)]), 0))

    def test_the_first_stretch_counts(self):
        rows = [("push", 1), ("toss",), ("give",), ("drop",), ("add",), ("give",)]
        self.assertEqual(stands(lone(rows, stretches=[(1, 2, 2), (0, 2, 3)]), 0)[3], None)
        self.assert_refused(lone(rows, stretches=[(0, 2, 3), (1, 2, 2)]), (4, "empty"))

    def test_a_catch_at_its_own_place(self):
        self.assert_stands(lone([("push", 4), ("toss",)], stretches=[(1, 2, 1)], boxes=0), [((), ()), ((), (NUMBER,))])

    def test_a_fault_has_room(self):
        rows = [("push", 1), ("call", 0), ("give",)]
        book = lone([("load", 0), ("call", 0), ("give",)], [NUMBER], height=1, stretches=[(1, 2, 2)])
        self.assertEqual(stands(book, 0)[2], ((NUMBER, ANY), (NUMBER,)))
        self.assert_refused(lone(rows, height=1, stretches=[(1, 2, 2)]), (1, "high"))

    def test_a_catch_amid_values(self):
        rows = [("push", 1), ("push", 2), ("push", 3), ("div",), ("drop",), ("drop",)] + END
        self.assertIsNotNone(stands(lone(rows, stretches=[(3, 4, 5)]), 0))
        self.assert_refused(lone(rows, stretches=[(3, 4, 4)]), (4, "meet"), (5, "meet"), (5, "empty"))


class TestRefusals(WardenCase):
    def test_each_word(self):
        self.assert_refused(lone([("drop",)] + END), (0, "empty"))
        self.assert_refused(lone([("push", 1), ("add",), ("give",)]), (1, "empty"))
        self.assert_refused(lone([("give",)]), (0, "empty"))
        self.assert_refused(lone([("load", 0), ("give",)]), (1, "kind"))
        self.assert_refused(lone([("load", 0), ("get", 1, 0), ("give",)], [("whole", 0)]), (1, "kind"))
        self.assert_refused(lone([("push", 1)] * 5 + [("give",)], height=4), (4, "high"))
        self.assert_refused(lone([("push", 1), ("dup",), ("give",)], height=1), (1, "high"))

    def test_only_by_one_of_two_ways(self):
        # By next the stack has a number at place 3, by jump it is empty.
        self.assert_refused(lone([("load", 0), ("zero", 3), ("push", 1), ("push", 2), ("push", 3), ("give",)], [NUMBER],
                                 height=2), (3, "meet"), (4, "meet"), (4, "high"))
        self.assert_refused(lone([("load", 0), ("zero", 3), ("jump", 4), ("drop",)] + END, [NUMBER]), (3, "empty"))
        self.assert_refused(lone([("load", 0), ("zero", 4), ("push", 1), ("give",), ("load", 1), ("give",)], [NUMBER]),
                            (5, "kind"))
        rows = [("load", 0), ("zero", 4), ("push", 1), ("give",), ("push", 1), ("push", 1), ("toss",)]
        self.assert_refused(lone(rows, [NUMBER], height=1), (5, "high"))

    def test_a_way_that_breaks_does_not_go_on(self):
        # Place 3 lies behind a row that breaks, and would be met with unlike heights.
        self.assert_refused(lone([("load", 0), ("zero", 3), ("drop",), ("push", 1), ("give",)], [NUMBER]), (2, "empty"))

    def test_meet(self):
        rows = [("load", 0), ("zero", 3), ("push", 1), ("jump", 3)]
        self.assert_refused(lone(rows, [NUMBER], boxes=1), (3, "meet"))
        rows = [("jump", 1), ("push", 1), ("jump", 1)]
        self.assert_refused(lone(rows, height=3), (1, "meet"), (2, "meet"), (1, "high"))

    def test_meet_at_the_entry(self):
        self.assert_refused(lone([("push", 1), ("jump", 0)], height=1), (0, "meet"), (0, "high"))

    def test_meet_by_a_catch(self):
        self.assert_refused(lone([("push", 1), ("push", 2), ("toss",)], stretches=[(2, 3, 2)]), (2, "meet"))
        self.assert_refused(lone([("push", 1), ("toss",)], stretches=[(1, 2, 0)]), (0, "meet"), (1, "meet"))
        self.assert_refused(lone([("push", 1), ("toss",)], stretches=[(1, 2, 0)], height=1), (0, "meet"), (0, "high"))

    def test_the_same_heights_meet_well(self):
        self.assertIsNotNone(stands(lone([("load", 0), ("zero", 4), ("push", 1), ("give",), ("push", 1), ("jump", 3)],
                                         [NUMBER]), 0))

    def test_gives_and_takes_of_the_parts(self):
        makes = some_makes()
        parts = [door([("call", 1), ("call", 2), ("give",)], boxes=1), ([], ("whole", 3), 0, 1, [("jump", 0)], []),
                 ([("whole", 1)], NUMBER, 1, 1, [("load", 0), ("get", 1, 0), ("give",)], [])]
        self.assertEqual(stands((makes, parts), 0), [((ANY,), ()), ((ANY,), (("whole", 3),)), ((ANY,), (NUMBER,))])
        parts[1] = ([], ("whole", 2), 0, 1, [("jump", 0)], [])
        self.assert_refused((makes, parts), (1, "kind"))
        parts[0] = door([("call", 1), ("give",)])
        self.assert_refused((makes, parts), (1, "kind"))


class TestBooks(unittest.TestCase):
    GOOD = ([], NUMBER, 1, 1, END, [])
    WRONG = ([NUMBER], NUMBER, 1, 1, [("push", 0), ("drop",), ("drop",), ("jump", 0)], [])
    OTHER = ([], ("whole", 1), 1, 1, [("push", 0), ("give",)], [])

    def test_each_part(self):
        book = (some_makes(), [self.GOOD, self.OTHER[:4] + ([("jump", 0)], []), self.GOOD])
        told = warded(book)
        self.assertEqual(told, [stands(book, 0), stands(book, 1), stands(book, 2)])
        self.assertEqual([len(some) for some in told], [2, 1, 2])
        self.assertEqual(type(told), list)

    def test_the_first_that_is_not_let_by(self):
        for parts, expected in (([self.WRONG, self.OTHER], (0, 2, "empty")), ([self.OTHER, self.WRONG], (0, 1, "kind")),
                                ([self.GOOD, self.WRONG, self.OTHER], (1, 2, "empty")),
                                ([self.GOOD, self.GOOD, self.OTHER, self.WRONG], (2, 1, "kind")),
                                ([self.GOOD] * 7 + [self.WRONG], (7, 2, "empty"))):
            with self.assertRaises(NoPass) as caught:
                warded((some_makes(), list(parts)))
            refusal = caught.exception
            self.assertEqual((refusal.part, refusal.at, refusal.word), expected)

    def test_a_part_that_is_called_and_not_let_by(self):
        book = (some_makes(), [door([("call", 1), ("drop",)] + END), self.OTHER])
        self.assertIsNotNone(stands(book, 0))
        with self.assertRaises(NoPass) as caught:
            warded(book)
        self.assertEqual(caught.exception.part, 1)

    def test_each_list_is_new(self):
        book = copy.deepcopy((some_makes(), [self.GOOD, self.GOOD]))
        told = warded(book)
        before = copy.deepcopy(told)
        warded(book)[0].clear()
        stands(book, 0).append(None)
        self.assertEqual((told, warded(book)), (before, before))
        book[1][0][4].clear()
        book[1].clear()
        self.assertEqual(told, before)


class TestByChance(unittest.TestCase):
    def test_as_all_ways_tell(self):
        let_by = 0
        words = {}
        for seed in range(700):
            book = BookMaker(seed, (0.0, 0.003, 0.02)[seed % 3]).made()
            check_book(book)
            for part in range(len(book[1])):
                expected, refusals, whole = joined_ways(book, part)
                try:
                    told = stands(book, part)
                except NoPass as refusal:
                    self.assertEqual(refusal.part, part, seed)
                    words[refusal.word] = words.get(refusal.word, 0) + 1
                    if whole:
                        self.assertIn((refusal.at, refusal.word), refusals, seed)
                else:
                    let_by += 1
                    self.assertEqual(refusals, set(), seed)
                    if whole:
                        self.assertEqual(told, expected, seed)
        self.assertGreater(let_by, 500)
        self.assertEqual(set(words), {"empty", "kind", "high", "meet"})


if __name__ == "__main__":
    unittest.main()
