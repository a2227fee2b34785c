import copy
import random
import unittest
from unittest import mock

from samples import (ANY, CASES, END, LONE, MASKS, NUMBER, PAIR, TURN, BookMaker, case_book, door, doors, explored,
                     lone, run_makes, whole)
from stackwarden.books import check_book
from stackwarden.errors import NoPaper, NoPass, WardenError
from stackwarden.flow import breaks, outs
from stackwarden.papers import check, papers_of
from stackwarden.stands import stand_beneath
from stackwarden.values import has_kind
from stackwarden.warden import stands, warded
from stackwarden.watched import Watched

INPUTS = ((0, 0, 0), (1, 2, 3), (-5, 0, 7))


def stand(boxes, *stack):
    return (tuple(boxes), tuple(stack))


def raw(c, mask):
    return ("raw", c, mask)


# The same book with two other parts ahead, so that the part that is looked at is number 2.
def behind_others(book):
    other = door([("push", 1), ("add",), ("give",)])
    return (book[0], [other, other] + book[1])


class PaperCase(unittest.TestCase):
    def assert_let_by(self, book, papers):
        check_book(book)
        before = copy.deepcopy((book, papers))
        self.assertIsNone(check(book, 0, papers))
        self.assertIsNone(check(behind_others(book), 2, papers))
        self.assertEqual((book, papers), before)
        # Point 38: what any papers are let by for is let by.
        for told, paper in ((stands(book, 0)[at], paper) for at, paper in papers):
            self.assertTrue(told is None or stand_beneath(book[0], told, paper))

    def assert_refused(self, book, papers, at, word):
        check_book(book)
        before = copy.deepcopy((book, papers))
        for whose, part in ((book, 0), (behind_others(book), 2)):
            with self.assertRaises(NoPaper) as caught:
                check(whose, part, papers)
            refusal = caught.exception
            self.assertIsInstance(refusal, WardenError)
            self.assertEqual((refusal.part, refusal.at, refusal.word), (part, at, word))
        self.assertEqual((book, papers), before)


class TestWithoutPapers(PaperCase):
    def test_straight_code(self):
        self.assert_let_by(lone(END), [])
        self.assert_let_by(lone([("load", 0), ("push", 2), ("add",), ("dup",), ("say",), ("give",)], [NUMBER]), [])
        self.assert_let_by(lone(PAIR + [("get", 1, 0), ("toss",)], makes=run_makes()), [])
        self.assert_let_by(lone([("push", 1), ("toss",)]), [])

    def test_behind_the_first_give_or_toss_nothing_is_looked_at(self):
        for sign in ("give", "toss"):
            self.assert_let_by(lone([("push", 1), (sign,), ("add",), ("get", 1, 0), ("jump", 0)]), [])
            self.assert_let_by(lone([("push", 1), (sign,), ("push", 1), ("push", 1), ("give",)], height=1), [])

    def test_the_first_row_that_breaks(self):
        self.assert_refused(lone([("drop",)] + END), [], 0, "empty")
        self.assert_refused(lone([("push", 1), ("add",), ("give",)]), [], 1, "empty")
        self.assert_refused(lone([("load", 0), ("say",)] + END), [], 1, "kind")
        self.assert_refused(lone([("load", 0), ("get", 3, 0)] + END, [whole(1)]), [], 1, "kind")
        self.assert_refused(lone([("push", 1)] * 5 + [("give",)]), [], 4, "high")
        self.assert_refused(lone([("push", 1), ("dup",), ("give",)], height=1), [], 1, "high")
        self.assert_refused(lone([("load", 0), ("say",), ("drop",)] + END), [], 1, "kind")
        self.assert_refused(lone([("drop",), ("load", 0), ("say",)] + END), [], 0, "empty")
        self.assert_refused(lone([("push", 1), ("push", 1), ("push", 1), ("give",)], height=2), [], 2, "high")

    def test_the_last_row(self):
        self.assert_refused(lone([("load", 0), ("give",)]), [], 1, "kind")
        self.assert_refused(lone([("load", 0), ("toss",)]), [], 1, "kind")
        self.assert_refused(lone([("push", 1), ("drop",), ("give",)]), [], 2, "empty")

    def test_whatever_leads_elsewhere_lacks_its_paper(self):
        self.assert_refused(lone([("jump", 1)] + END), [], 0, "lacks")
        self.assert_refused(lone([("jump", 0)]), [], 0, "lacks")
        self.assert_refused(lone([("push", 1), ("zero", 2)] + END), [], 1, "lacks")
        self.assert_refused(lone([("load", 0), ("kin", 3, 2), ("drop",)] + END, [whole(1)]), [], 1, "lacks")
        for rows in ([("push", 1), ("push", 1), ("div",), ("drop",)], [("push", 1), ("push", 1), ("rem",), ("drop",)],
                     [("push", 1), ("drop",), ("call", 0), ("drop",)]):
            self.assert_let_by(lone(rows + END), [])
            self.assert_refused(lone(rows + END, stretches=[(0, 4, 3)]), [], 2, "lacks")
        self.assert_refused(lone([("push", 1), ("toss",)], stretches=[(1, 2, 1)]), [], 1, "lacks")
        self.assert_let_by(lone([("push", 1), ("toss",)], stretches=[(0, 1, 1)]), [])

    def test_a_row_that_breaks_ahead_of_where_it_leads(self):
        self.assert_refused(lone([("zero", 1)] + END), [], 0, "empty")
        self.assert_refused(lone([("load", 0), ("zero", 2)] + END), [], 1, "kind")
        self.assert_refused(lone([("push", 1), ("call", 0), ("give",)], height=1, stretches=[(1, 2, 2)]), [], 1, "high")


class TestForm(PaperCase):
    # Two boxes, height 2, five rows; papers at every place could be right.
    def book(self):
        return lone([("push", 1), ("jump", 2), ("drop",), ("push", 3), ("give",)], [NUMBER], height=2)

    GOOD = (2, stand((NUMBER, ANY), NUMBER))

    def test_good(self):
        self.assert_let_by(self.book(), [self.GOOD])
        self.assert_let_by(self.book(), [(0, stand((NUMBER, ANY))), self.GOOD, (3, stand((NUMBER, ANY))),
                                         (4, stand((ANY, ANY), NUMBER))])

    def test_places(self):
        for at in (-1, -100, 5, 6, 99, 10 ** 30, -10 ** 30):
            self.assert_refused(self.book(), [(at, self.GOOD[1])], at, "paper")
            self.assert_refused(self.book(), [self.GOOD, (at, self.GOOD[1])], at, "paper")
        self.assert_refused(self.book(), [self.GOOD, self.GOOD], 2, "paper")
        self.assert_refused(self.book(), [self.GOOD, (1, stand((NUMBER, ANY), NUMBER))], 1, "paper")
        self.assert_refused(self.book(), [self.GOOD, (3, stand((NUMBER, ANY))), (0, stand((NUMBER, ANY)))], 0, "paper")
        self.assert_refused(self.book(), [self.GOOD, (4, stand((NUMBER, ANY), NUMBER)), self.GOOD], 2, "paper")

    def test_sizes(self):
        for boxes in ((), (NUMBER,), (NUMBER, ANY, ANY)):
            self.assert_refused(self.book(), [(2, (boxes, (NUMBER,)))], 2, "paper")
        self.assert_refused(self.book(), [(2, stand((NUMBER, ANY), NUMBER, NUMBER, NUMBER))], 2, "paper")
        # As high as the part may be it is papers, but not such as this part has.
        self.assert_refused(self.book(), [(2, stand((NUMBER, ANY), NUMBER, NUMBER))], 1, "unlike")

    def test_kinds(self):
        wrong = [whole(8), whole(-1), whole(10 ** 20), raw(8, 0), raw(-1, 0)]
        wrong += [raw(c, mask) for c in range(8) for mask in (-1, MASKS[c] + 1, 10 ** 20, -10 ** 20)]
        for kind in wrong:
            self.assert_refused(self.book(), [(2, stand((NUMBER, kind), NUMBER))], 2, "paper")
            self.assert_refused(self.book(), [(2, stand((kind, ANY), NUMBER))], 2, "paper")
            self.assert_refused(self.book(), [(2, stand((NUMBER, ANY), kind))], 2, "paper")
            self.assert_refused(self.book(), [(2, stand((NUMBER, ANY), NUMBER, kind))], 2, "paper")
            self.assert_refused(self.book(), [self.GOOD, (3, stand((NUMBER, kind)))], 3, "paper")
        for kind in [whole(7), raw(7, 0)] + [raw(c, MASKS[c]) for c in range(8)]:
            self.assert_refused(self.book(), [(2, stand((NUMBER, kind), NUMBER))], 1, "unlike")

    def test_kinds_of_the_books_own_makes(self):
        book = lone([("jump", 1)] + END, [whole(3)], boxes=1, makes=run_makes())
        self.assert_let_by(book, [(1, stand((whole(3),)))])
        self.assert_refused(book, [(1, stand((whole(4),)))], 1, "paper")
        self.assert_refused(book, [(1, stand((raw(3, 1),)))], 1, "paper")

    def test_the_first_of_two(self):
        low, high = stand((NUMBER,), NUMBER), stand((NUMBER, ANY), NUMBER, NUMBER, NUMBER)
        self.assert_refused(self.book(), [(1, low), (4, high)], 1, "paper")
        self.assert_refused(self.book(), [self.GOOD, (4, high), (3, low)], 4, "paper")
        self.assert_refused(self.book(), [(3, high), (-7, low)], 3, "paper")
        self.assert_refused(self.book(), [(-7, low), (3, high)], -7, "paper")
        self.assert_refused(self.book(), [(4, stand((NUMBER, ANY), NUMBER)), (2, low)], 2, "paper")

    def test_ahead_of_any_row(self):
        book = lone([("drop",)] + END)
        self.assert_refused(book, [], 0, "empty")
        self.assert_refused(book, [(2, stand((ANY,)))], 2, "paper")
        self.assert_refused(book, [(0, stand((ANY, ANY), NUMBER)), (9, stand((ANY, ANY)))], 9, "paper")

    def test_a_part_without_boxes(self):
        self.assert_let_by(lone([("jump", 0)], boxes=0), [(0, ((), ()))])
        self.assert_refused(lone([("jump", 0)], boxes=0), [(0, ((ANY,), ()))], 0, "paper")


class TestRowByRow(PaperCase):
    def test_what_comes_must_be_beneath(self):
        book = lone([("push", 1), ("drop",)] + END, [whole(3), raw(5, 7)], boxes=3)
        good = (whole(3), raw(5, 7), ANY)
        for boxes in (good, (whole(1), raw(5, 6), ANY), (whole(0), raw(5, 0), ANY), (ANY, ANY, ANY)):
            self.assert_let_by(book, [(0, stand(boxes))])
            self.assert_let_by(book, [(1, stand(boxes, NUMBER))])
            self.assert_let_by(book, [(1, stand(boxes, ANY)), (3, stand(boxes, NUMBER))])
        for boxes in ((whole(5), raw(5, 7), ANY), (whole(4), raw(5, 7), ANY), (whole(3), raw(5, 15), ANY),
                      (whole(3), raw(3, 7), ANY), (whole(3), whole(5), ANY), (raw(3, 0), raw(5, 7), ANY),
                      (NUMBER, raw(5, 7), ANY), (whole(3), raw(5, 7), NUMBER)):
            self.assert_refused(book, [(0, stand(boxes))], 0, "unlike")
            self.assert_refused(book, [(1, stand(boxes, NUMBER))], 1, "unlike")
            self.assert_refused(book, [(2, stand(boxes))], 2, "unlike")
        self.assert_refused(book, [(0, stand(good, NUMBER))], 0, "unlike")
        self.assert_refused(book, [(1, stand(good))], 1, "unlike")
        self.assert_refused(book, [(1, stand(good, NUMBER, NUMBER))], 1, "unlike")
        self.assert_refused(book, [(1, stand(good, whole(0)))], 1, "unlike")

    def test_the_paper_is_the_stand_from_there_on(self):
        book = lone([("push", 1), ("store", 1), ("load", 1), ("say",)] + END)
        self.assert_let_by(book, [])
        self.assert_let_by(book, [(2, stand((ANY, NUMBER)))])
        self.assert_refused(book, [(2, stand((ANY, ANY)))], 3, "kind")
        self.assert_refused(book, [(3, stand((ANY, NUMBER), ANY))], 3, "kind")
        self.assert_refused(lone([("load", 0), ("say",)] + END, [NUMBER]), [(0, stand((ANY, ANY)))], 1, "kind")
        self.assert_refused(lone([("push", 0), ("give",)]), [(1, stand((ANY, ANY), ANY))], 1, "kind")

    def test_it_goes_on_till_the_next_paper(self):
        rows = [("jump", 1), ("load", 0), ("store", 1), ("jump", 4), ("load", 1), ("say",)] + END
        book = lone(rows, [NUMBER])
        self.assert_let_by(book, [(1, stand((NUMBER, ANY))), (4, stand((NUMBER, NUMBER)))])
        self.assert_refused(book, [(1, stand((ANY, ANY))), (4, stand((NUMBER, NUMBER)))], 3, "unlike")
        self.assert_refused(book, [(1, stand((NUMBER, ANY))), (4, stand((ANY, ANY)))], 5, "kind")

    def test_a_row_without_a_stand_is_passed_over(self):
        rows = [("push", 1), ("give",), ("add",), ("jump", 0), ("zero", 1), ("toss",)]
        self.assert_let_by(lone(rows), [])
        self.assert_let_by(lone([("jump", 3), ("add",), ("jump", 1)] + END), [(3, stand((ANY, ANY)))])

    def test_a_paper_where_no_stand_comes(self):
        # Whatever it says, it is the stand from there on.
        book = lone([("push", 1), ("give",), ("add",), ("say",)] + END)
        self.assert_let_by(book, [(2, stand((NUMBER, whole(3)), NUMBER, NUMBER))])
        self.assert_let_by(book, [(3, stand((NUMBER, whole(3)), NUMBER, NUMBER))])
        self.assert_refused(book, [(2, stand((NUMBER, whole(3)), NUMBER))], 2, "empty")
        self.assert_refused(book, [(2, stand((ANY, ANY), NUMBER, ANY))], 2, "kind")
        self.assert_refused(book, [(4, stand((ANY, ANY), NUMBER, NUMBER, NUMBER, NUMBER))], 4, "high")

    def test_jump(self):
        book = lone([("push", 1), ("jump", 3), ("drop",), ("give",)], [whole(3)])
        boxes = (whole(3), ANY)
        self.assert_let_by(book, [(3, stand(boxes, NUMBER))])
        self.assert_let_by(book, [(3, stand((whole(1), ANY), NUMBER))])
        self.assert_refused(book, [(2, stand(boxes, NUMBER))], 1, "lacks")
        self.assert_refused(book, [(3, stand(boxes))], 1, "unlike")
        self.assert_refused(book, [(3, stand(boxes, NUMBER, NUMBER))], 1, "unlike")
        self.assert_refused(book, [(3, stand(boxes, whole(0)))], 1, "unlike")
        self.assert_refused(book, [(3, stand((whole(5), ANY), NUMBER))], 1, "unlike")

    def test_a_jump_to_its_own_place_and_back(self):
        self.assert_let_by(lone([("push", 1), ("drop",), ("jump", 2)]), [(2, stand((ANY, ANY)))])
        self.assert_let_by(lone([("push", 1), ("drop",), ("jump", 0)]), [(0, stand((ANY, ANY)))])
        # What the paper says at the place that is led back to was the stand there.
        self.assert_refused(lone([("push", 1), ("store", 1), ("jump", 0)]), [(0, stand((ANY, NUMBER)))], 0, "unlike")
        self.assert_refused(lone([("push", 1), ("jump", 0)], height=2), [(0, stand((ANY, ANY)))], 1, "unlike")

    def test_zero(self):
        book = lone([("push", 5), ("load", 0), ("zero", 4), ("jump", 4), ("give",)], [NUMBER], boxes=1)
        self.assert_let_by(book, [(4, stand((NUMBER,), NUMBER))])
        self.assert_refused(book, [], 2, "lacks")
        self.assert_refused(book, [(3, stand((NUMBER,), NUMBER))], 2, "lacks")
        self.assert_refused(book, [(4, stand((NUMBER,)))], 2, "unlike")
        self.assert_refused(book, [(4, stand((NUMBER,), NUMBER, NUMBER))], 2, "unlike")
        self.assert_refused(book, [(4, stand((whole(0),), NUMBER))], 2, "unlike")

    def test_kin_leads_to_two_stands(self):
        book = lone([("load", 0), ("kin", 3, 4), ("drop",), ("jump", 5), ("drop",)] + END, [whole(1)], boxes=1)
        tail = (5, stand((whole(1),)))
        for kind in (whole(3), whole(1), whole(0), ANY):
            self.assert_let_by(book, [(4, stand((whole(1),), kind)), tail])
        for kind in (whole(5), whole(4), NUMBER, raw(3, 0)):
            self.assert_refused(book, [(4, stand((whole(1),), kind)), tail], 1, "unlike")
        self.assert_refused(book, [tail], 1, "lacks")
        # By next it stays what it was: whole 1, not whole 3.
        self.assert_let_by(book, [(2, stand((whole(1),), whole(1))), (4, stand((whole(1),), whole(3))), tail])
        self.assert_refused(book, [(2, stand((whole(1),), whole(3))), (4, stand((whole(1),), whole(3))), tail], 2,
                            "unlike")

    def test_kin_of_a_make_that_is_not_under(self):
        book = lone([("load", 0), ("kin", 6, 3), ("drop",), ("drop",), ("push", 0), ("give",)], [whole(1)], boxes=1)
        self.assert_refused(book, [(3, stand((whole(1),), whole(6)))], 3, "unlike")
        book = lone([("load", 0), ("kin", 6, 4), ("drop",), ("jump", 0), ("get", 6, 1), ("give",)], [whole(1)], boxes=1)
        self.assert_let_by(book, [(0, stand((whole(1),))), (4, stand((whole(1),), whole(6)))])

    def test_catch(self):
        for rows in ([("push", 1), ("push", 2), ("div",)], [("push", 1), ("push", 2), ("rem",)],
                     [("push", 1), ("drop",), ("call", 1)], [("push", 1), ("push", 1), ("toss",)]):
            book = lone(rows + [("give",), ("push", 0), ("push", 0), ("give",)], [NUMBER], stretches=[(2, 3, 4)])
            book[1].append(door([("jump", 0)]))
            boxes = (NUMBER, ANY)
            whose = (book[0], book[1][:1]) if rows[2] != ("call", 1) else book
            for told in (stand(boxes, NUMBER), stand((ANY, ANY), ANY)):
                self.assertIsNone(check(whose, 0, [(4, told)]))
            for told in (stand(boxes), stand(boxes, NUMBER, NUMBER), stand(boxes, whole(0)),
                         stand((NUMBER, NUMBER), NUMBER)):
                self.assert_part_refused(whose, [(4, told)], 2, "unlike")
            self.assert_part_refused(whose, [(3, stand(boxes, NUMBER))], 2, "lacks")

    def assert_part_refused(self, book, papers, at, word):
        with self.assertRaises(NoPaper) as caught:
            check(book, 0, papers)
        refusal = caught.exception
        self.assertEqual((refusal.part, refusal.at, refusal.word), (0, at, word))

    def test_the_first_stretch_counts(self):
        rows = [("push", 1), ("toss",), ("give",), ("give",)]
        papers = [(3, stand((ANY, ANY), NUMBER))]
        self.assert_let_by(lone(rows, stretches=[(1, 2, 3), (0, 2, 2)]), papers)
        self.assert_refused(lone(rows, stretches=[(0, 2, 2), (1, 2, 3)]), papers, 1, "lacks")

    def test_the_boxes_at_the_fault(self):
        rows = [("push", 1), ("store", 1), ("push", 1), ("push", 2), ("div",), ("give",), ("give",)]
        self.assert_let_by(lone(rows, stretches=[(4, 5, 6)]), [(6, stand((ANY, NUMBER), NUMBER))])
        rows = rows[2:5] + [("store", 1)] + rows[2:]
        self.assert_refused(lone(rows, stretches=[(0, 7, 8)]), [(8, stand((ANY, NUMBER), NUMBER))], 2, "unlike")
        self.assert_let_by(lone(rows, stretches=[(0, 7, 8)]), [(8, stand((ANY, ANY), NUMBER))])

    def test_the_first_that_is_met(self):
        # At place 1 a jump that lacks its paper, at place 2 an unlike stand, at place 3 a row that breaks.
        rows = [("load", 0), ("zero", 4), ("load", 1), ("say",)] + END
        book = lone(rows, [NUMBER])
        good, wrong = (4, stand((NUMBER, ANY))), (2, stand((NUMBER, NUMBER)))
        self.assert_refused(book, [wrong], 1, "lacks")
        self.assert_refused(book, [wrong, good], 2, "unlike")
        self.assert_refused(book, [good], 3, "kind")
        self.assert_refused(book, [wrong, (4, stand((NUMBER, NUMBER)))], 1, "unlike")
        # Of one place: what came is asked ahead of the row, and the row ahead of where it leads.
        self.assert_refused(book, [(1, stand((NUMBER, ANY), whole(0)))], 1, "unlike")
        self.assert_refused(book, [(1, stand((NUMBER, ANY), ANY))], 1, "kind")


class TestPapersOf(PaperCase):
    def assert_papers(self, book, expected):
        check_book(book)
        before = copy.deepcopy(book)
        told = papers_of(book, 0)
        self.assertEqual(told, expected)
        self.assertIs(type(told), list)
        self.assertEqual(papers_of(behind_others(book), 2), expected)
        self.assertEqual(book, before)
        self.assert_let_by(book, told)
        told.append(None)
        self.assertEqual(papers_of(book, 0), expected)

    def test_straight_code_has_none(self):
        self.assert_papers(lone(END), [])
        self.assert_papers(lone(LONE + [("drop",)] + END, makes=run_makes()), [])
        self.assert_papers(lone([("push", 1), ("push", 1), ("div",), ("give",)], stretches=[(0, 2, 3)]), [])

    def test_a_crossing(self):
        rows = [("load", 0), ("zero", 4), ("load", 1), ("jump", 5), ("load", 2), ("drop",)] + END
        boxes = (NUMBER, whole(3), whole(4))
        self.assert_papers(lone(rows, boxes), [(4, stand(boxes)), (5, stand(boxes, whole(1)))])

    def test_a_loop(self):
        rows = [("load", 0), ("zero", 7), ("load", 0), ("store", 1), ("jump", 0), ("push", 1), ("jump", 6), ("push", 0),
                ("give",)]
        self.assert_papers(lone(rows, [NUMBER]), [(0, stand((NUMBER, ANY))), (7, stand((NUMBER, ANY)))])

    def test_turning_boxes(self):
        takes = [whole(c) for c in (5, 5, 5, 3, 3, 3, 5, 4)]
        rows = TURN + [("push", 1), ("zero", 0)] + END
        self.assert_papers(lone(rows, takes, boxes=8), [(0, stand([whole(1)] * 8))])

    def test_kin(self):
        rows = [("load", 0), ("kin", 3, 4), ("drop",), ("jump", 5), ("drop",)] + END
        boxes = (whole(1),)
        self.assert_papers(lone(rows, boxes, boxes=1), [(4, stand(boxes, whole(3))), (5, stand(boxes))])

    def test_catches(self):
        rows = [("push", 1), ("push", 2), ("div",), ("store", 1), ("push", 1), ("push", 2), ("rem",), ("give",),
                ("give",)]
        self.assert_papers(lone(rows, stretches=[(2, 3, 8)], boxes=2), [(8, stand((ANY, ANY), NUMBER))])
        self.assert_papers(lone(rows, stretches=[(6, 7, 8)], boxes=2), [(8, stand((ANY, NUMBER), NUMBER))])
        self.assert_papers(lone(rows, stretches=[(0, 8, 8)], boxes=2), [(8, stand((ANY, ANY), NUMBER))])
        self.assert_papers(lone([("push", 4), ("toss",)], stretches=[(1, 2, 1)], boxes=0), [(1, ((), (NUMBER,)))])

    def test_no_way_comes_there(self):
        # Rows to which no way comes lead nowhere; a place that is only gone into by next has no paper.
        rows = [("jump", 3), ("jump", 2), ("jump", 4)] + END + [("push", 1), ("push", 1), ("div",), ("jump", 3)]
        self.assert_papers(lone(rows, stretches=[(5, 9, 4)]), [(3, stand((ANY, ANY)))])

    def test_refused(self):
        for rows, at, word in (([("drop",)] + END, 0, "empty"), ([("load", 0), ("give",)], 1, "kind"),
                               ([("push", 1)] * 5 + [("give",)], 4, "high"),
                               ([("jump", 3), ("push", 1), ("push", 1), ("give",)], 3, "empty")):
            for book, part in ((lone(rows), 0), (behind_others(lone(rows)), 2)):
                with self.assertRaises(NoPass) as caught:
                    papers_of(book, part)
                refusal = caught.exception
                self.assertEqual((refusal.part, refusal.at, refusal.word), (part, at, word))
        book = lone([("push", 0), ("zero", 3), ("push", 1), ("jump", 3)])
        with self.assertRaises(NoPass) as caught:
            papers_of(book, 0)
        self.assertEqual((caught.exception.at, caught.exception.word), (3, "meet"))

    def test_what_is_told_stays(self):
        book = lone([("load", 0), ("zero", 2)] + END, [NUMBER])
        told = papers_of(book, 0)
        before = copy.deepcopy(told)
        book[1][0][4].clear()
        book[1][0][0].clear()
        book[0].clear()
        self.assertEqual(told, before)


def let_by_books(seeds, careless=0.0):
    for seed in seeds:
        book = BookMaker(seed, careless).made()
        try:
            warded(book)
        except NoPass:
            continue
        yield seed, book


def is_let_by(book, part, papers):
    try:
        check(book, part, papers)
    except NoPaper:
        return False
    return True


class PaperChanger:
    """Changes papers by chance: in a kind, in a place; leaves one out, puts one in."""

    def __init__(self, seed):
        self.chance = random.Random(seed)

    def kind(self, makes):
        return self.chance.choice([ANY, ANY, NUMBER, whole(self.chance.randrange(len(makes))),
                                   whole(0), raw(self.chance.randrange(len(makes)), self.chance.choice([0, 0, 1, 3]))])

    def changed_stand(self, makes, told):
        kinds = [list(told[0]), list(told[1])]
        for k in range(self.chance.choice([1, 1, 1, 2, 3])):
            some = self.chance.choice([side for side in kinds if side] or [[ANY]])
            some[self.chance.randrange(len(some))] = self.kind(makes)
        if self.chance.random() < 0.1:
            kinds[1] = kinds[1][1:] if self.chance.random() < 0.5 else kinds[1] + [self.kind(makes)]
        return (tuple(kinds[0]), tuple(kinds[1]))

    def changed(self, book, part, papers):
        papers = list(papers)
        size = len(book[1][part][4])
        how = self.chance.choice(["kind", "kind", "kind", "place", "out", "in", "in"])
        k = self.chance.randrange(len(papers)) if papers else 0
        if how == "kind" and papers:
            papers[k] = (papers[k][0], self.changed_stand(book[0], papers[k][1]))
        elif how == "place" and papers:
            papers[k] = (self.chance.randrange(-1, size + 1), papers[k][1])
        elif how == "out":
            papers = papers[:k] + papers[k + 1:]
        else:
            told = [other for other in stands_or_nothing(book, part) if other is not None]
            told = self.chance.choice(told or [((ANY,) * book[1][part][2], ())])
            papers.append((self.chance.randrange(size), self.changed_stand(book[0], told)))
        return sorted(papers, key=lambda paper: paper[0])


def stands_or_nothing(book, part):
    try:
        return stands(book, part)
    except NoPass:
        return []


# Papers that have, at each place to which a way comes, one of the stands that come there.
def likely_papers(book, part):
    found = explored(book, part)[0]
    return [(at, sorted(some)[0]) for at, some in enumerate(found) if some and at > 0]


class TestByChance(unittest.TestCase):
    def test_the_wardens_papers(self):
        many = 0
        for seed, book in let_by_books(range(1000, 1400), 0.002):
            for part in range(len(book[1])):
                told = stands(book, part)
                places = {to for at, one in enumerate(told) if one is not None
                          for how, to, other in outs(book, part, at, one) if how in ("jump", "catch")}
                expected = [(at, told[at]) for at in range(len(told)) if at in places]
                self.assertEqual(papers_of(book, part), expected, seed)
                self.assertIsNone(check(book, part, expected), seed)
                many += len(expected)
        self.assertGreater(many, 1000)

    def test_changed_papers_are_refused_or_still_true(self):
        kept = {True: 0, False: 0}
        for seed, book in let_by_books(range(2000, 2250)):
            changer = PaperChanger(seed)
            for part in range(len(book[1])):
                for k in range(12):
                    papers = changer.changed(book, part, papers_of(book, part))
                    let_by = is_let_by(book, part, papers)
                    kept[let_by] += 1
                    if let_by:
                        for at, paper in papers:
                            one = stands(book, part)[at]
                            self.assertTrue(one is None or stand_beneath(book[0], one, paper), seed)
        self.assertGreater(kept[True], 500)
        self.assertGreater(kept[False], 2000)

    def test_what_the_warden_refuses_no_papers_help(self):
        refused = 0
        for seed in range(3000, 3300):
            book = BookMaker(seed, 0.01).made()
            changer = PaperChanger(seed)
            for part in range(len(book[1])):
                if stands_or_nothing(book, part):
                    continue
                refused += 1
                papers = likely_papers(book, part)
                for k in range(10):
                    self.assertFalse(is_let_by(book, part, papers), seed)
                    papers = changer.changed(book, part, papers)
        self.assertGreater(refused, 100)

    def test_each_paper_by_its_rule(self):
        # What the checker tells, told again straight from points 35 and 36.
        told = {}
        for seed, book in let_by_books(range(2000, 2250)):
            changer = PaperChanger(seed + 1)
            for part in range(len(book[1])):
                papers = changer.changed(book, part, papers_of(book, part))
                expected = by_the_rules(book, part, papers)
                try:
                    check(book, part, papers)
                except NoPaper as refusal:
                    self.assertEqual((refusal.part, refusal.at, refusal.word), (part,) + expected, seed)
                    told[refusal.word] = told.get(refusal.word, 0) + 1
                else:
                    self.assertIsNone(expected, seed)
        self.assertLessEqual({"kind", "empty", "lacks", "unlike", "paper"}, set(told))

    def test_each_row_is_asked_at_most_once(self):
        asked = 0
        for seed, book in let_by_books(range(1000, 1100)):
            for part in range(len(book[1])):
                places = []

                def counting(book, part, at, stand):
                    places.append(at)
                    return breaks(book, part, at, stand)

                papers = papers_of(book, part)
                with mock.patch("stackwarden.papers.breaks", counting):
                    check(book, part, papers)
                self.assertEqual(places, sorted(set(places)), seed)
                self.assertLessEqual({at for at, one in enumerate(stands(book, part)) if one}, set(places))
                asked += len(places)
        self.assertGreater(asked, 1000)

    # Point 39, with the warden's papers and with others that are let by, too.
    def test_what_stands_there_has_the_kinds_of_the_papers(self):
        met = 0
        for seed, book in let_by_books(range(4000, 4150)):
            changer = PaperChanger(seed)
            papers = [papers_of(book, part) for part in range(len(book[1]))]
            for k in range(6):
                met += self.assert_kept(book, papers, changer.chance.randrange(40))
                for part in range(len(papers)):
                    other = changer.changed(book, part, papers[part])
                    if is_let_by(book, part, other):
                        papers[part] = other
        self.assertGreater(met, 2000)

    def test_what_stands_there_in_books_by_hand(self):
        for told in CASES:
            book = case_book(told)
            self.assert_kept(book, [papers_of(book, 0)], 10)
            self.assert_kept(book, [list(enumerate(stands(book, 0)))[:len(told["ahead"]) + 1] + [
                paper for paper in papers_of(book, 0) if paper[0] > len(told["ahead"])]], 10)

    def assert_kept(self, book, papers, budget):
        met = 0
        for part in range(len(book[1])):
            self.assertIsNone(check(book, part, papers[part]))
        kept = [dict(some) for some in papers]
        for part in doors(book):
            for words in INPUTS:
                machine = Watched(book, part, list(words[:len(book[1][part][0])]), budget)
                for k in range(200):
                    if machine.told()[0] is not None:
                        self.assertNotEqual(machine.told()[0][0], "look")
                        break
                    number, at, boxes, stack = machine.frames()[-1]
                    if at in kept[number]:
                        met += 1
                        self.assert_has_kinds(book, machine.heap(), boxes, kept[number][at][0])
                        self.assert_has_kinds(book, machine.heap(), stack, kept[number][at][1])
                    machine.step()
        return met

    def assert_has_kinds(self, book, heap, values, kinds):
        self.assertEqual(len(values), len(kinds))
        for value, kind in zip(values, kinds):
            self.assertTrue(has_kind(book[0], heap, value, kind), (value, kind))


# None, or the place and the word of what is wrong first.
def by_the_rules(book, part, papers):
    takes, gives, boxes, height, rows, stretches = book[1][part]
    for k, (at, told) in enumerate(papers):
        rising = at in range(len(rows)) and (k == 0 or papers[k - 1][0] < at)
        sizes = len(told[0]) == boxes and len(told[1]) <= height
        kinds = all(one[0] in ("any", "number") or one[1] in range(len(book[0])) for one in told[0] + told[1])
        masks = kinds and all(one[0] != "raw" or one[2] in range(1 << size_of(book[0], one[1]))
                              for one in told[0] + told[1])
        if not (rising and sizes and kinds and masks):
            return (at, "paper")
    came = (tuple(takes) + (ANY,) * (boxes - len(takes)), ())
    for at in range(len(rows)):
        paper = [told for place, told in papers if place == at]
        if paper and came and not stand_beneath(book[0], came, paper[0]):
            return (at, "unlike")
        came = paper[0] if paper else came
        if not came:
            continue
        if breaks(book, part, at, came):
            return (at, breaks(book, part, at, came))
        leads = outs(book, part, at, came)
        for how, to, other in leads:
            paper = [told for place, told in papers if place == to]
            if how != "next" and not paper:
                return (at, "lacks")
            if how != "next" and not stand_beneath(book[0], other, paper[0]):
                return (at, "unlike")
        came = leads[0][2] if leads and leads[0][0] == "next" else None
    return None


def size_of(makes, c):
    return 0 if c == 0 else len(makes[c][1]) + size_of(makes, makes[c][0])


if __name__ == "__main__":
    unittest.main()
