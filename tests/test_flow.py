import copy
import unittest

from samples import ANY, NUMBER, all_kinds, some_makes
from stackwarden.asks import asked
from stackwarden.flow import breaks, entry, outs
from stackwarden.kinds import beneath
from stackwarden.rows import SIGNS

BOXES = (NUMBER, ANY, ("whole", 3), ("raw", 5, 2))
BASE = (ANY, ("whole", 2))
CAUGHT = (BOXES, (NUMBER,))

TAKES = [NUMBER, ("whole", 1), ("raw", 5, 4)]
OTHER = (TAKES, ("whole", 4), 4, 1, [("push", 0), ("toss",)], [])
NONE = ([], ("raw", 1, 3), 0, 1, [("push", 0), ("toss",)], [])


# A book whose part 0 has a row at a place, and nothing right elsewhere.
def book_at(row, at=3, gives=("whole", 3), height=8, stretches=(), behind=()):
    part = ([], gives, 4, height, [None] * at + [row] + list(behind), list(stretches))
    return (some_makes(), [part, OTHER, NONE])


# A row, what it takes off the stack, and what it leaves there by next or else by jump.
LEADS = [
    (("push", 5), (), (NUMBER,)),
    (("load", 0), (), (NUMBER,)),
    (("load", 1), (), (ANY,)),
    (("load", 2), (), (("whole", 3),)),
    (("load", 3), (), (("raw", 5, 2),)),
    (("dup",), (ANY,), (ANY, ANY)),
    (("dup",), (("raw", 5, 3),), (("raw", 5, 3), ("raw", 5, 3))),
    (("swap",), (NUMBER, ("whole", 1)), (("whole", 1), NUMBER)),
    (("swap",), (("raw", 1, 1), ANY), (ANY, ("raw", 1, 1))),
    (("drop",), (("raw", 1, 1),), ()),
    (("add",), (NUMBER, NUMBER), (NUMBER,)),
    (("sub",), (NUMBER, NUMBER), (NUMBER,)),
    (("mul",), (NUMBER, NUMBER), (NUMBER,)),
    (("div",), (NUMBER, NUMBER), (NUMBER,)),
    (("rem",), (NUMBER, NUMBER), (NUMBER,)),
    (("less",), (NUMBER, NUMBER), (NUMBER,)),
    (("same",), (NUMBER, NUMBER), (NUMBER,)),
    (("make", 5), (), (("raw", 5, 0),)),
    (("make", 0), (), (("raw", 0, 0),)),
    (("fill", 5, 0), (("raw", 5, 0), NUMBER), (("raw", 5, 1),)),
    (("fill", 5, 5), (("raw", 5, 5), ("whole", 1)), (("raw", 5, 37),)),
    (("fill", 5, 3), (("raw", 5, 62), ("whole", 4)), (("raw", 5, 62),)),
    (("fill", 3, 2), (("raw", 3, 3), ("raw", 7, 0)), (("raw", 3, 7),)),
    (("fill", 2, 0), (("raw", 2, 0), ("raw", 6, 3)), (("raw", 2, 1),)),
    (("begin", 5), (("raw", 5, 63),), (("whole", 5),)),
    (("begin", 7), (("raw", 7, 0),), (("whole", 7),)),
    (("get", 1, 0), (("whole", 1),), (NUMBER,)),
    (("get", 1, 1), (("whole", 5),), (("whole", 5),)),
    (("get", 5, 2), (("whole", 5),), (ANY,)),
    (("get", 6, 0), (("whole", 6),), (("raw", 6, 1),)),
    (("put", 1, 0), (("whole", 3), NUMBER), ()),
    (("put", 3, 2), (("whole", 5), ("raw", 0, 0)), ()),
    (("call", 1), (NUMBER, ("whole", 5), ("raw", 5, 7)), (("whole", 4),)),
    (("call", 2), (), (("raw", 1, 3),)),
    (("say",), (NUMBER,), ()),
]


class TestEntry(unittest.TestCase):
    def assert_entry(self, takes, boxes, expected):
        book = (some_makes(), [NONE, (list(takes), NUMBER, boxes, 1, [("jump", 0)], [])])
        before = copy.deepcopy(book)
        told = entry(book, 1)
        self.assertEqual(told, (expected, ()))
        self.assertEqual([type(told), type(told[0]), type(told[1])], [tuple] * 3)
        self.assertEqual(book, before)
        book[1][1][0].append(ANY)
        self.assertEqual(told, (expected, ()))

    def test_takes_and_boxes(self):
        self.assert_entry([], 0, ())
        self.assert_entry([], 1, (ANY,))
        self.assert_entry([], 8, (ANY,) * 8)
        self.assert_entry([NUMBER], 1, (NUMBER,))
        self.assert_entry([NUMBER], 3, (NUMBER, ANY, ANY))
        self.assert_entry(TAKES, 3, tuple(TAKES))
        self.assert_entry(TAKES, 5, tuple(TAKES) + (ANY, ANY))
        self.assert_entry([("whole", 0)] * 8, 8, (("whole", 0),) * 8)

    def test_of_each_part(self):
        book = (some_makes(), [NONE, OTHER])
        self.assertEqual([entry(book, 0), entry(book, 1)], [((), ()), (tuple(TAKES) + (ANY,), ())])


class TestBreaks(unittest.TestCase):
    def told(self, row, stack, **more):
        book = book_at(row, **more)
        before = copy.deepcopy(book)
        word = breaks(book, 0, more.get("at", 3), (BOXES, tuple(stack)))
        self.assertEqual(book, before)
        return word

    def every_row(self):
        rows = [row for row, took, left in LEADS] + [("store", 0), ("jump", 0), ("zero", 0), ("kin", 3, 0), ("toss",),
                                                     ("give",)]
        self.assertEqual({row[0] for row in rows}, set(SIGNS))
        return [(row, asked(book_at(row), 0, row)) for row in rows]

    def test_what_leads_on_does_not_break(self):
        for row, took, left in LEADS:
            self.assertIsNone(self.told(row, BASE + took), row)
            self.assertIsNone(self.told(row, took), row)

    def test_empty(self):
        for row, wanted in self.every_row():
            for few in range(len(wanted)):
                self.assertEqual(self.told(row, wanted[:few]), "empty", row)
                self.assertEqual(self.told(row, wanted[len(wanted) - few:]), "empty", row)

    def test_kind_at_each_spot(self):
        makes = some_makes()
        for row, wanted in self.every_row():
            for spot, kind in enumerate(wanted):
                for other in all_kinds():
                    stack = wanted[:spot] + [other] + wanted[spot + 1:]
                    word = None if beneath(makes, other, kind) else "kind"
                    self.assertEqual(self.told(row, stack), word, (row, stack))
                    self.assertEqual(self.told(row, [ANY] + stack), word, (row, stack))

    def test_kinds_by_hand(self):
        for row, right, wrong in ((("say",), NUMBER, ANY), (("zero", 1), NUMBER, ("whole", 1)),
                                  (("toss",), NUMBER, ("raw", 1, 0)), (("kin", 3, 0), ("whole", 7), ("raw", 7, 0)),
                                  (("kin", 3, 0), ("whole", 0), NUMBER), (("begin", 5), ("raw", 5, 63), ("raw", 5, 62)),
                                  (("begin", 7), ("raw", 7, 0), ("whole", 7)),
                                  (("get", 3, 0), ("whole", 5), ("whole", 1)),
                                  (("give",), ("whole", 5), ("whole", 4)), (("give",), ("whole", 3), ANY)):
            self.assertIsNone(self.told(row, [right]), row)
            self.assertEqual(self.told(row, [wrong]), "kind", row)

    def test_give_asks_of_its_own_part(self):
        for kind in (NUMBER, ANY, ("whole", 2), ("raw", 5, 3)):
            self.assertIsNone(self.told(("give",), [kind], gives=kind))
            self.assertEqual(self.told(("give",), [("raw", 4, 0)], gives=kind), None if kind == ANY else "kind")

    def test_high(self):
        for row in (("push", 0), ("load", 1), ("make", 1), ("dup",), ("call", 2)):
            for height in range(1, 9):
                self.assertEqual(self.told(row, [NUMBER] * height, height=height), "high", row)
                if height > 1 or row != ("dup",):
                    self.assertIsNone(self.told(row, [NUMBER] * (height - 1), height=height), row)

    def test_never_high(self):
        rising = (("push", 5), ("call", 2), ("dup",))
        for row, wanted in self.every_row():
            if row[0] not in ("load", "make") and row not in rising:
                for height in range(max(1, len(wanted)), 9):
                    stack = [ANY] * (height - len(wanted)) + wanted
                    self.assertIsNone(self.told(row, stack, height=height), row)

    def test_empty_then_kind_then_high(self):
        self.assertEqual(self.told(("add",), [ANY]), "empty")
        self.assertEqual(self.told(("put", 5, 3), [("raw", 0, 0)]), "empty")
        # Stands that are higher than the part's height already.
        self.assertEqual(self.told(("add",), [ANY] * 5, height=1), "kind")
        self.assertEqual(self.told(("add",), [NUMBER] * 5, height=1), "high")
        self.assertEqual(self.told(("add",), [NUMBER] * 5, height=4), None)
        self.assertEqual(self.told(("say",), [NUMBER] * 3, height=1), "high")
        self.assertEqual(self.told(("call", 1), [NUMBER] * 8, height=1), "kind")
        self.assertEqual(self.told(("call", 1), [ANY] * 2, height=1), "empty")
        self.assertEqual(self.told(("call", 1), [ANY] + TAKES, height=1), "high")
        self.assertEqual(self.told(("call", 1), [ANY] + TAKES, height=2), None)

    def test_the_rest_of_the_stack_may_be_anything(self):
        for kind in all_kinds():
            self.assertIsNone(self.told(("add",), [kind, kind, NUMBER, NUMBER]))

    def test_the_row_at_the_place_alone(self):
        rows = [("drop",), ("push", 0), ("jump", 99), "no row"]
        book = (some_makes(), [([], NUMBER, 0, 1, rows, [])])
        self.assertEqual(breaks(book, 0, 0, ((), ())), "empty")
        self.assertIsNone(breaks(book, 0, 1, ((), ())))
        self.assertIsNone(breaks(book, 0, 2, ((), ())))


class TestOuts(unittest.TestCase):
    def assert_outs(self, row, stack, expected, boxes=BOXES, **more):
        book = book_at(row, **more)
        before = copy.deepcopy(book)
        told = outs(book, 0, more.get("at", 3), (boxes, tuple(stack)))
        self.assertEqual(told, expected, row)
        self.assertEqual(book, before)
        self.assertIs(type(told), list)
        for way in told:
            self.assertEqual([type(way), type(way[2]), type(way[2][0]), type(way[2][1])], [tuple] * 4)
        told.append(None)
        self.assertEqual(outs(book, 0, more.get("at", 3), (boxes, tuple(stack))), expected)

    def test_each_row_that_goes_on_behind(self):
        for row, took, left in LEADS:
            for base in ((), BASE):
                self.assert_outs(row, base + took, [("next", 4, (BOXES, base + left))])
                caught = [("catch", 9, CAUGHT)] if row[0] in ("div", "rem", "call") else []
                self.assert_outs(row, base + took, [("next", 4, (BOXES, base + left))] + caught, stretches=[(3, 4, 9)])

    def test_store(self):
        for b in range(4):
            for kind in (NUMBER, ANY, ("whole", 7), ("raw", 6, 1)):
                boxes = list(BOXES)
                boxes[b] = kind
                expected = [("next", 4, (tuple(boxes), BASE))]
                self.assert_outs(("store", b), BASE + (kind,), expected, stretches=[(0, 9, 0)])

    def test_jump(self):
        for at in (0, 3, 4, 99):
            self.assert_outs(("jump", at), BASE, [("jump", at, (BOXES, BASE))])
            self.assert_outs(("jump", at), (), [("jump", at, (BOXES, ()))], stretches=[(0, 9, 0)])

    def test_zero(self):
        for at in (0, 3, 4, 99):
            self.assert_outs(("zero", at), BASE + (NUMBER,),
                             [("next", 4, (BOXES, BASE)), ("jump", at, (BOXES, BASE))], stretches=[(0, 9, 0)])

    def test_kin(self):
        for at in (0, 4, 99):
            for c in range(8):
                for had in range(8):
                    self.assert_outs(("kin", c, at), BASE + (("whole", had),),
                                     [("next", 4, (BOXES, BASE + (("whole", had),))),
                                      ("jump", at, (BOXES, BASE + (("whole", c),)))], stretches=[(0, 9, 0)])

    def test_toss(self):
        for base in ((), BASE):
            self.assert_outs(("toss",), base + (NUMBER,), [])
            self.assert_outs(("toss",), base + (NUMBER,), [("catch", 7, CAUGHT)], stretches=[(3, 4, 7)])

    def test_give(self):
        self.assert_outs(("give",), BASE + (("whole", 5),), [])
        self.assert_outs(("give",), (("whole", 3),), [], stretches=[(0, 9, 0)])

    def test_stretches(self):
        stack = (NUMBER, NUMBER)
        following = ("next", 4, (BOXES, (NUMBER,)))
        for stretches, at in (([(0, 3, 1)], None), ([(4, 9, 1)], None), ([(3, 4, 1)], 1), ([(0, 4, 3)], 3),
                              ([(3, 9, 99)], 99), ([(4, 9, 1), (0, 9, 2), (3, 4, 5)], 2), ([(3, 4, 5), (0, 9, 2)], 5)):
            caught = [] if at is None else [("catch", at, CAUGHT)]
            self.assert_outs(("div",), stack, [following] + caught, stretches=stretches)
            self.assert_outs(("toss",), stack[1:], caught, stretches=stretches)

    def test_the_boxes_of_a_catch(self):
        boxes = (("raw", 5, 63), ("whole", 0), NUMBER, ANY)
        caught = ("catch", 0, (boxes, (NUMBER,)))
        following = ("next", 4, (boxes, (ANY, ("raw", 1, 3))))
        self.assert_outs(("toss",), (ANY, NUMBER), [caught], boxes=boxes, stretches=[(0, 9, 0)])
        self.assert_outs(("call", 2), (ANY,), [following, caught], boxes=boxes, stretches=[(0, 9, 0)])

    def test_at_the_first_and_the_last_place(self):
        self.assert_outs(("push", 0), (), [("next", 1, (BOXES, (NUMBER,)))], at=0)
        self.assert_outs(("push", 0), (), [("next", 100, (BOXES, (NUMBER,)))], at=99)

    def test_no_boxes(self):
        self.assert_outs(("push", 0), (), [("next", 4, ((), (NUMBER,)))], boxes=())
        expected = [("next", 4, ((), (NUMBER,))), ("catch", 3, ((), (NUMBER,)))]
        self.assert_outs(("div",), (NUMBER,) * 2, expected, boxes=(), stretches=[(3, 4, 3)])

    def test_other_rows_may_be_anything(self):
        self.assert_outs(("zero", 50), (NUMBER,), [("next", 4, (BOXES, ())), ("jump", 50, (BOXES, ()))],
                         behind=["no row", 7, ("hop",)])

    def test_every_sign_is_asked(self):
        signs = {row[0] for row, took, left in LEADS} | {"store", "jump", "zero", "kin", "toss", "give"}
        self.assertEqual(signs, set(SIGNS))


if __name__ == "__main__":
    unittest.main()
