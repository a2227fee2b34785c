import copy
import unittest

from samples import CASES, END, NUMBER, TURN, BookMaker, case_book, door, explored, lone, run_makes, some_makes
from stackwarden.books import check_book
from stackwarden.errors import NoPass
from stackwarden.flow import breaks, entry, outs
from stackwarden.warden import stands
from stackwarden.ways import why

MOST_STEPS = 20000


# Goes along a way; the stand with which it comes to its last place.
def gone_along(test, book, part, way):
    test.assertIs(type(way), list)
    test.assertEqual(way[0], ("start", 0))
    test.assertLessEqual(len(way), MOST_STEPS)
    at, stand = 0, entry(book, part)
    for step in way[1:]:
        test.assertIsNone(breaks(book, part, at, stand))
        leads = {(how, to): other for how, to, other in outs(book, part, at, stand)}
        test.assertIn(step, leads)
        at, stand = step[1], leads[step]
    return at, stand


class WayCase(unittest.TestCase):
    def assert_told(self, book, part):
        before = copy.deepcopy(book)
        told = why(book, part)
        self.assertEqual(book, before)
        self.assertEqual(told, why(book, part))
        try:
            stands(book, part)
        except NoPass:
            self.assertIs(type(told), tuple)
            self.assertEqual(len(told), 3)
        else:
            self.assertIsNone(told)
            return None
        at, stand = gone_along(self, book, part, told[1])
        if told[0] == "meet":
            other, another = gone_along(self, book, part, told[2])
            self.assertEqual(at, other)
            self.assertNotEqual(len(stand[1]), len(another[1]))
        else:
            self.assertIn(told[0], ("empty", "kind", "high"))
            self.assertEqual(breaks(book, part, at, stand), told[0])
            self.assertIsNone(told[2])
        return (at, told[0])

    def assert_let_by(self, book):
        check_book(book)
        self.assertIsNone(self.assert_told(book, 0))

    # Of several places and words any one may be told.
    def assert_refused(self, book, *some):
        check_book(book)
        self.assertIn(self.assert_told(book, 0), some)
        parts = [door(END), door([("drop",)] + END)] + book[1]
        self.assertIn(self.assert_told((book[0], parts), 2), some)


class TestStraight(WayCase):
    def test_let_by(self):
        self.assert_let_by(lone(END))
        self.assert_let_by(lone([("jump", 0)], boxes=0))
        self.assert_let_by(lone([("jump", 3), ("add",), ("drop",)] + END))
        for told in CASES:
            self.assert_let_by(case_book(told))

    def test_the_very_way(self):
        book = lone([("push", 1), ("push", 2), ("add",), ("add",), ("give",)])
        self.assertEqual(why(book, 0), ("empty", [("start", 0), ("next", 1), ("next", 2), ("next", 3)], None))
        self.assertEqual(why(lone([("give",)]), 0), ("empty", [("start", 0)], None))
        self.assertEqual(why(lone([("load", 0), ("jump", 2), ("toss",)]), 0),
                         ("kind", [("start", 0), ("next", 1), ("jump", 2)], None))
        self.assertEqual(why(lone([("push", 1), ("toss",), ("dup",), ("give",)], height=1, stretches=[(1, 2, 2)]), 0),
                         ("high", [("start", 0), ("next", 1), ("catch", 2)], None))

    def test_each_word(self):
        self.assert_refused(lone([("drop",)] + END), (0, "empty"))
        self.assert_refused(lone([("load", 0), ("give",)]), (1, "kind"))
        self.assert_refused(lone([("push", 1), ("dup",), ("give",)], height=1), (1, "high"))

    def test_without_boxes(self):
        self.assert_refused(lone([("drop",)] + END, boxes=0), (0, "empty"))
        self.assert_refused(lone([("jump", 2), ("push", 1), ("jump", 3), ("add",), ("give",)], boxes=0), (3, "empty"))
        self.assert_let_by(lone([("jump", 2), ("push", 1), ("jump", 3)] + END, boxes=0))

    def test_its_own_part_alone(self):
        makes = some_makes()
        book = (makes, [door(END), door([("load", 0), ("give",)]), door([("call", 1), ("give",)])])
        self.assertIsNone(why(book, 0))
        self.assertEqual(why(book, 1), ("kind", [("start", 0), ("next", 1)], None))
        self.assertIsNone(why(book, 2))


class TestBranches(WayCase):
    def test_only_by_next(self):
        self.assert_refused(lone([("load", 0), ("zero", 4), ("load", 1), ("give",)] + END, [NUMBER]), (3, "kind"))

    def test_only_by_jump(self):
        self.assert_refused(lone([("load", 0), ("zero", 4), ("push", 1), ("give",), ("load", 1), ("give",)], [NUMBER]),
                            (5, "kind"))

    def test_only_by_catch(self):
        rows = [("push", 1), ("push", 2), ("div",), ("store", 1), ("push", 0), ("load", 1), ("say",), ("give",)]
        self.assert_refused(lone(rows, stretches=[(2, 3, 5)]), (6, "kind"))
        self.assertIn(("catch", 5), why(lone(rows, stretches=[(2, 3, 5)]), 0)[1])
        self.assert_let_by(lone(rows, stretches=[(3, 6, 5)]))

    def test_only_by_one_of_four(self):
        # Both boxes are right but where the first zero went on behind and the second jumped.
        rows = [("load", 0), ("zero", 4), ("load", 2), ("store", 1), ("load", 0), ("zero", 8), ("push", 1),
                ("store", 1), ("load", 1), ("say",)] + END
        book = lone(rows, [NUMBER, NUMBER, ("whole", 1)])
        self.assert_refused(book, (9, "kind"))
        self.assertEqual(why(book, 0)[1], [("start", 0), ("next", 1), ("next", 2), ("next", 3), ("next", 4),
                                           ("next", 5), ("jump", 8), ("next", 9)])

    def test_kin_by_both(self):
        rows = [("load", 0), ("kin", 3, 4), ("get", 3, 2), ("jump", 5), ("get", 3, 2), ("drop",)] + END
        self.assert_refused(lone(rows, [("whole", 1)]), (2, "kind"))
        rows[2] = ("get", 1, 1)
        self.assert_let_by(lone(rows, [("whole", 1)]))
        rows[4] = ("get", 5, 3)
        self.assert_refused(lone(rows, [("whole", 1)]), (4, "kind"))

    def test_what_is_filled_by_only_one(self):
        rows = [("make", 1), ("push", 4), ("fill", 1, 0), ("load", 0), ("zero", 7), ("push", 5), ("fill", 1, 1),
                ("begin", 1), ("get", 1, 0), ("give",)]
        self.assert_refused(lone(rows, [NUMBER], makes=run_makes()), (7, "kind"))
        self.assertIn(("jump", 7), why(lone(rows, [NUMBER], makes=run_makes()), 0)[1])
        rows[4] = ("zero", 5)
        self.assert_let_by(lone(rows, [NUMBER], makes=run_makes()))


class TestMeets(WayCase):
    def test_two_ways(self):
        self.assert_refused(lone([("load", 0), ("zero", 3), ("push", 1), ("jump", 3)], [NUMBER]), (3, "meet"))
        told = why(lone([("load", 0), ("zero", 3), ("push", 1), ("jump", 3)], [NUMBER]), 0)
        self.assertEqual(sorted([told[1][-1], told[2][-1]]), [("jump", 3), ("next", 3)])

    def test_at_the_entry(self):
        self.assert_refused(lone([("push", 1), ("jump", 0)], height=1), (0, "meet"), (0, "high"))
        self.assert_refused(lone([("jump", 1), ("push", 1), ("jump", 1)]), (1, "meet"), (2, "meet"), (1, "high"))

    def test_by_a_catch(self):
        self.assert_refused(lone([("push", 1), ("push", 2), ("toss",)], stretches=[(2, 3, 2)]), (2, "meet"))
        self.assert_refused(lone([("push", 1), ("toss",)], stretches=[(1, 2, 0)]), (0, "meet"), (1, "meet"))

    def test_a_row_that_breaks_ahead_of_the_place_is_no_way(self):
        self.assert_refused(lone([("load", 0), ("zero", 3), ("drop",), ("push", 1), ("give",)], [NUMBER]), (2, "empty"))
        self.assert_refused(lone([("load", 0), ("zero", 4), ("load", 1), ("say",), ("push", 1), ("push", 1), ("give",)],
                                 [NUMBER], height=1), (3, "kind"), (5, "high"))

    def test_a_row_that_breaks_at_the_place(self):
        # Both ways come to place 3, and there one breaks.
        self.assert_refused(lone([("load", 0), ("zero", 3), ("push", 1), ("drop",)] + END, [NUMBER]),
                            (3, "meet"), (3, "empty"), (4, "meet"))

    def test_the_same_heights(self):
        self.assert_let_by(lone([("load", 0), ("zero", 4), ("push", 1), ("give",), ("push", 1), ("jump", 3)], [NUMBER]))


class TestLoops(WayCase):
    def test_gone_round_more_than_once(self):
        rows = [("load", 0), ("say",)] + TURN + [("push", 1), ("zero", 0)] + END
        for b in range(1, 8):
            takes = [NUMBER] * 8
            takes[b] = ("whole", 1)
            book = lone(rows, takes, boxes=8)
            self.assert_refused(book, (1, "kind"))
            way = why(book, 0)[1]
            self.assertEqual(way.count(("jump", 0)), 8 - b)
            self.assertEqual(len(way), 20 * (8 - b) + 2)
        self.assert_let_by(lone(rows, [NUMBER] * 8, boxes=8))

    def test_a_loop_that_spoils_what_it_asks_for(self):
        takes = [NUMBER, NUMBER, ("whole", 1)]
        rows = [("load", 1), ("say",), ("load", 2), ("store", 1), ("load", 0), ("zero", 0)] + END
        self.assert_refused(lone(rows, takes), (1, "kind"))
        rows[2] = ("load", 0)
        self.assert_let_by(lone(rows, takes))

    def test_a_height_that_grows_by_turns(self):
        rows = [("push", 1), ("push", 1), ("zero", 0)] + END
        self.assert_refused(lone(rows), (0, "meet"))

    def test_loops_within_loops(self):
        # The inner loop changes two boxes, the outer one turns all about.
        swap = [("load", 0), ("load", 1), ("store", 0), ("store", 1)]
        rows = [("load", 5), ("drop",)] + TURN + [("push", 1), ("zero", 0)] + swap
        rows += [("push", 1), ("zero", 20), ("push", 1), ("zero", 0), ("load", 3), ("say",)] + END
        self.assert_let_by(lone(rows, [NUMBER] * 8, boxes=8))
        for b in range(8):
            takes = [NUMBER] * 8
            takes[b] = ("raw", 5, 33)
            self.assert_refused(lone(rows, takes, boxes=8), (29, "kind"))

    def test_masks_that_grow_by_turns(self):
        # Fills some fields of the record in box 0, and turns the boxes about; begin asks for a full one.
        makes = [(None, []), (0, [NUMBER] * 6)]
        rows = [("load", 0)]
        for f in range(6):
            rows += [("push", 1), ("zero", len(rows) + 4), ("push", 1), ("fill", 1, f)]
        rows += [("store", 0)] + TURN + [("push", 1), ("zero", 0)]
        takes = [("raw", 1, 0)] * 8
        self.assert_let_by(lone(rows + END, takes, boxes=8, makes=makes))
        at = len(rows) + 1
        self.assert_refused(lone(rows + [("load", 0), ("begin", 1), ("drop",)] + END, takes, boxes=8, makes=makes),
                            (at, "kind"))
        self.assert_let_by(lone(rows + [("load", 0), ("begin", 1), ("drop",)] + END, [("raw", 1, 63)] * 8, boxes=8,
                                makes=makes))
        one = [("raw", 1, 63)] * 7 + [("raw", 1, 62)]
        self.assert_refused(lone(rows + [("load", 7), ("begin", 1), ("drop",)] + END, one, boxes=8, makes=makes),
                            (at, "kind"))

    def test_a_hundred_rows(self):
        for b in range(8):
            rows = TURN * 5 + [("push", 1), ("zero", 80), ("push", 1), ("zero", 0)]
            rows += [("load", 0), ("store", 6), ("push", 1), ("zero", 16), ("load", 3), ("say",)]
            rows += [("push", 1), ("drop",)] * 4 + END
            self.assertEqual(len(rows), 100)
            takes = [NUMBER] * 8
            takes[b] = ("whole", 7)
            self.assert_refused(lone(rows, takes, boxes=8), (89, "kind"))
            self.assert_let_by(lone(rows, [NUMBER] * 8, boxes=8))

    def test_many_kinds_that_turn_about(self):
        # Eight unlike kinds, as many orders as eight boxes have; each comes to each box.
        swap = [("load", 0), ("load", 1), ("store", 0), ("store", 1)]
        rows = TURN + [("push", 1), ("zero", 0)] + swap + [("push", 1), ("zero", 0), ("load", 4), ("kin", 0, 26)]
        rows += [("drop",)] + END
        makes = [(None, [])] + [(0, []) for c in range(7)]
        takes = [("whole", c) for c in range(8)]
        self.assert_let_by(lone(rows, takes, boxes=8, makes=makes))
        takes[3] = NUMBER
        self.assert_refused(lone(rows, takes, boxes=8, makes=makes), (25, "kind"))

    def test_a_long_way(self):
        # Each turn goes through all rows but the last four, and brings what it moves one box nearer to box 0.
        rows = [row for b in range(7) for row in (("load", b + 1), ("store", b))] + [("push", 1), ("drop",)] * 39
        rows += [("load", 0), ("say",), ("push", 1), ("zero", 0), ("push", 1), ("drop",)] + END
        self.assertEqual(len(rows), 100)
        book = lone(rows, [NUMBER] * 7 + [("whole", 1)], boxes=8)
        self.assert_refused(book, (93, "kind"))
        self.assertEqual(len(why(book, 0)[1]), 6 * 96 + 94)

    def test_the_boxes_shifted_one_a_turn(self):
        # One box a turn: what starts in box 7 comes to box 0 in as many turns as there are boxes.
        rows = [("load", 0), ("say",)]
        for b in range(7):
            rows += [("load", b + 1), ("store", b), ("push", 1), ("zero", 0)]
        rows += END
        takes = [NUMBER] * 7 + [("whole", 1)]
        self.assert_refused(lone(rows, takes, boxes=8), (1, "kind"))
        self.assertGreater(why(lone(rows, takes, boxes=8), 0)[1].count(("jump", 0)), 0)


class TestByChance(WayCase):
    def test_as_the_warden_tells(self):
        words = {}
        hows = set()
        for seed in range(6000, 6700):
            book = BookMaker(seed, (0.0, 0.003, 0.02)[seed % 3]).made()
            for part in range(len(book[1])):
                told = self.assert_told(book, part)
                word = None if told is None else told[1]
                words[word] = words.get(word, 0) + 1
                if told is not None:
                    hows.update(how for how, at in why(book, part)[1])
                    found, refusals, whole = explored(book, part)
                    self.assertTrue(told in refusals or not whole, seed)
        self.assertEqual(set(words), {None, "empty", "kind", "high", "meet"})
        self.assertGreater(words[None], 500)
        self.assertGreater(sum(words.values()) - words[None], 200)
        self.assertEqual(hows, {"start", "next", "jump", "catch"})

    def test_rows_by_chance(self):
        # Nothing but turns and loops: rows that move kinds about, and one that asks.
        words = {}
        for seed in range(300):
            book = BookMaker(seed).made()
            chance = BookMaker(seed).chance
            rows = []
            while len(rows) < 96:
                b, other = chance.randrange(8), chance.randrange(8)
                rows += [("load", b), ("store", other)]
                if chance.random() < 0.3 and len(rows) < 94:
                    rows += [("push", 1), ("zero", 2 * chance.randrange(len(rows) // 2 + 1))]
            rows = rows[:96] + [("load", chance.randrange(8)), ("say",)] + END
            takes = [NUMBER] * 7 + [("whole", 0)] if seed % 2 else [NUMBER] * 8
            chance.shuffle(takes)
            told = self.assert_told((book[0], [(takes, NUMBER, 8, 8, rows, [])]), 0)
            words[told] = words.get(told, 0) + 1
        self.assertEqual(set(words), {None, (97, "kind")})
        self.assertGreater(words[(97, "kind")], 30)


class TestLists(unittest.TestCase):
    def test_each_list_is_new_and_stays(self):
        book = lone([("load", 0), ("zero", 3), ("push", 1), ("jump", 3)], [NUMBER])
        told = why(book, 0)
        before = copy.deepcopy(told)
        why(book, 0)[1].clear()
        why(book, 0)[2].clear()
        self.assertEqual((told, why(book, 0)), (before, before))
        self.assertIsNot(told[1], told[2])
        book[1][0][4].clear()
        book[1].clear()
        self.assertEqual(told, before)


if __name__ == "__main__":
    unittest.main()
