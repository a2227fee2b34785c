import copy
import itertools
import random
import unittest

from samples import ANY, NUMBER, BookMaker, ProgramMaker, doors, run_makes, whole
from stackwarden.books import check_book
from stackwarden.errors import NoBook, NoLink, NoPass, TooLarge, WardenError
from stackwarden.kinds import beneath
from stackwarden.linker import linked
from stackwarden.maker import made
from stackwarden.rows import wants
from stackwarden.runs import run, run_watched
from stackwarden.units import book_of
from stackwarden.warden import warded

THING = ("thing", None, [], False)


def raw(c, mask):
    return ("raw", c, mask)


def own(name, elder=0, kinds=()):
    return (name, elder, list(kinds), True)


def believe(name, elder=0, kinds=()):
    return (name, elder, list(kinds), False)


# A part that is owned and gives nothing, whatever it takes.
def has(name, takes=(), gives=NUMBER, word=5):
    return (name, list(takes), gives, (len(takes), 1, [("push", word), ("toss",)], []))


def hopes(name, takes=(), gives=NUMBER):
    return (name, list(takes), gives, None)


# A unit of makes and parts; with no part, it has one that it owns, of a name of its own.
def unit(makes=(), parts=(), number=0):
    return ([THING] + list(makes), list(parts) or [has("own" + "abcdefgh"[number])])


class LinkCase(unittest.TestCase):
    def assert_refused(self, units, word, name):
        for some in itertools.permutations(units) if len(units) < 4 else [units, units[::-1]]:
            some = list(some)
            before = copy.deepcopy(some)
            with self.assertRaises(NoLink) as caught:
                linked(some)
            self.assertIsInstance(caught.exception, WardenError)
            self.assertEqual((caught.exception.word, caught.exception.name), (word, name))
            self.assertEqual(some, before)

    # Linked in any order they are the same; what is linked is right and let by.
    def assert_linked(self, units, make_names, part_names, makes=None, parts=None):
        for some in itertools.permutations(units) if len(units) < 4 else [units, units[::-1]]:
            some = list(some)
            before = copy.deepcopy(some)
            told = linked(some)
            self.assertEqual(some, before)
            self.assertEqual(told[1:], (make_names, part_names))
            self.assertEqual((type(told), type(told[0]), type(told[1]), type(told[2])), (tuple, tuple, list, list))
            self.assertIsNone(check_book(told[0]))
            warded(told[0])
            if makes is not None:
                self.assertEqual(told[0][0], makes)
            if parts is not None:
                self.assertEqual(told[0][1], parts)
        return told[0]


class TestAlone(unittest.TestCase):
    WRONG = unit((), [("a", [], NUMBER, (0, 1, [("load", 0), ("give",)], []))])
    BREAKS = unit((), [has("b"), ("c", [], NUMBER, (1, 1, [("load", 0), ("give",)], []))])

    def test_no_book(self):
        for units, part, at in (([self.WRONG], 0, 0), ([self.WRONG, self.BREAKS], 0, 0), ([unit(), self.WRONG], 0, 0),
                                ([([THING], [])], None, None), ([unit([own("a", 5)])], None, None),
                                ([unit([own("a", 0, [NUMBER] * 7)])], None, None),
                                ([unit([own("a", 0, [whole(2)])])], None, None),
                                ([unit([believe("a", 0, [whole(2)])])], None, None),
                                ([unit([own("abcdefgh"[k]) for k in range(8)])], None, None),
                                ([unit((), [has("abcdefghi"[k]) for k in range(9)])], None, None),
                                ([unit((), [has("a"), hopes("b", [NUMBER] * 9)])], 1, None),
                                ([unit((), [has("a"), hopes("b", [whole(1)])])], 1, None),
                                ([unit(), unit(), unit((), [has("a"), has("b", [NUMBER], raw(0, 1))])], 1, None)):
            before = copy.deepcopy(units)
            with self.assertRaises(NoBook) as caught:
                linked(units)
            self.assertEqual((caught.exception.part, caught.exception.at), (part, at))
            self.assertEqual(units, before)

    def test_no_pass(self):
        for units in ([self.BREAKS], [self.BREAKS, self.WRONG], [unit(), unit(), self.BREAKS]):
            with self.assertRaises(NoPass) as caught:
                linked(units)
            self.assertEqual((caught.exception.part, caught.exception.at, caught.exception.word), (1, 1, "kind"))

    def test_what_is_believed_is_what_a_call_takes_and_gives(self):
        rows = [("load", 0), ("call", 1), ("give",)]
        good = unit((), [("a", [NUMBER], NUMBER, (1, 1, rows, [])), hopes("b", [NUMBER])])
        linked([good, unit((), [has("b", [NUMBER])])])
        wrong = unit((), [("a", [NUMBER], NUMBER, (1, 1, rows, [])), hopes("b", [whole(0)])])
        with self.assertRaises(NoPass) as caught:
            linked([wrong, unit((), [has("b", [whole(0)])])])
        self.assertEqual((caught.exception.part, caught.exception.at, caught.exception.word), (0, 1, "kind"))

    def test_ahead_of_all(self):
        twice = unit((), [has("a"), has("a")])
        lacks = unit((), [has("a"), hopes("z")])
        for other in (twice, lacks):
            for units in ([self.WRONG, other], [other, self.WRONG]):
                with self.assertRaises(NoBook):
                    linked(units)
            for units in ([self.BREAKS, other], [other, self.BREAKS]):
                with self.assertRaises(NoPass):
                    linked(units)


class TestTwice(LinkCase):
    def test_among_one_units_makes(self):
        for makes in ([own("a"), own("a")], [own("a"), believe("a")], [believe("a"), own("a")],
                      [believe("a"), believe("a")], [own("b"), own("a"), own("c", 1), own("a", 2)]):
            self.assert_refused([unit(makes)], "twice", "a")
            self.assert_refused([unit(makes), unit([own("a")], (), 1)], "twice", "a")
        self.assert_refused([unit([own("thing")])], "twice", "thing")
        self.assert_refused([unit([believe("thing")]), unit((), (), 1)], "twice", "thing")

    def test_among_one_units_parts(self):
        for parts in ([has("a"), has("a")], [has("a"), hopes("a")], [hopes("a"), has("b"), hopes("a")]):
            self.assert_refused([unit((), parts)], "twice", "a")
            self.assert_refused([unit((), parts), unit()], "twice", "a")

    def test_owned_by_two(self):
        self.assert_refused([unit([own("a")]), unit([own("a")], (), 1)], "twice", "a")
        self.assert_refused([unit((), [has("a")]), unit((), [has("a")])], "twice", "a")
        self.assert_refused([unit((), [has("a")]), unit((), [has("b")]), unit((), [has("c"), has("a")])], "twice", "a")

    def test_believed_by_two_or_in_both_sides_is_not_twice(self):
        self.assert_linked([unit([believe("a")], [has("p"), hopes("r")]), unit([believe("a")], [has("q"), hopes("r")]),
                            unit([own("a")], [has("r")])], ["thing", "a"], ["p", "q", "r"])
        self.assert_linked([unit([own("a"), own("b")], [has("a"), has("thing")])], ["thing", "a", "b"], ["a", "thing"])

    def test_the_least_name_and_makes_ahead(self):
        self.assert_refused([unit([own("c"), own("b"), own("c"), own("b")])], "twice", "b")
        self.assert_refused([unit([own("b"), own("aa")]), unit([own("b"), own("aa")], (), 1)], "twice", "aa")
        self.assert_refused([unit([own("b"), own("b")]), unit([own("a")], (), 1), unit([own("a")], (), 2)], "twice",
                            "a")
        self.assert_refused([unit([own("z"), own("z")], [has("a"), has("a")])], "twice", "z")
        self.assert_refused([unit([own("z")], [has("c"), has("b"), has("c"), has("b")])], "twice", "b")


class TestLacks(LinkCase):
    def test_makes(self):
        self.assert_refused([unit([believe("a")])], "lacks", "a")
        self.assert_refused([unit([believe("a")]), unit([believe("a")], (), 1)], "lacks", "a")
        self.assert_refused([unit([believe("a")]), unit([own("b")], [has("a")])], "lacks", "a")
        self.assert_refused([unit([own("b"), believe("a", 1)])], "lacks", "a")

    def test_parts(self):
        self.assert_refused([unit((), [hopes("a")])], "lacks", "a")
        self.assert_refused([unit((), [has("b"), hopes("a")]), unit([own("a")])], "lacks", "a")
        self.assert_refused([unit((), [has("b"), hopes("thing")])], "lacks", "thing")

    def test_the_make_thing_need_not_be_owned(self):
        self.assert_linked([unit(), unit((), (), 1)], ["thing"], ["owna", "ownb"], [(None, [])])
        self.assert_linked([unit((), [hopes("thing"), has("a")]), unit((), [has("thing")])], ["thing"], ["a", "thing"])

    def test_the_least_name_and_makes_ahead(self):
        self.assert_refused([unit([believe("c"), believe("b")])], "lacks", "b")
        self.assert_refused([unit([believe("c")]), unit([believe("b")], (), 1)], "lacks", "b")
        self.assert_refused([unit([believe("c")], [has("b"), hopes("a")])], "lacks", "c")
        self.assert_refused([unit((), [hopes("c"), hopes("b")])], "lacks", "b")


class TestUnlikeMakes(LinkCase):
    # The makes a and b stand for themselves in both units; c is believed in one as told.
    def assert_belief(self, believed, owned, right):
        units = [unit([own("a"), own("b", 1), believed]), unit([believe("a"), believe("b", 1), owned], (), 1)]
        if right:
            self.assert_linked(units, ["thing", "a", "b", "c"], ["owna", "ownb"])
        else:
            self.assert_refused(units, "unlike", "c")

    def test_fields(self):
        same = [NUMBER, ANY, whole(0), whole(1), whole(3), raw(1, 0)]
        self.assert_belief(believe("c", 1, same), own("c", 1, same), True)
        for kinds in ([], same[:5], same[:5] + [NUMBER], same[:5] + [raw(2, 0)], same[:4] + [whole(2)] + same[5:],
                      same[1::-1] + same[2:], same[:2] + [ANY] + same[3:], [ANY] + same[1:]):
            self.assert_belief(believe("c", 1, same), own("c", 1, kinds), False)
            self.assert_belief(believe("c", 1, kinds), own("c", 1, same), False)

    def test_beneath_is_not_enough(self):
        for one, other in ((whole(2), whole(1)), (whole(1), whole(0)), (NUMBER, ANY)):
            self.assert_belief(believe("c", 1, [one]), own("c", 1, [other]), False)
            self.assert_belief(believe("c", 1, [other]), own("c", 1, [one]), False)

    def test_elders(self):
        self.assert_belief(believe("c", 1), own("c", 1), True)
        for one, other in ((1, 2), (2, 1), (1, 0), (0, 1)):
            self.assert_belief(believe("c", one), own("c", other), False)

    def test_masks(self):
        units = [unit([own("a", 0, [NUMBER, NUMBER]), believe("c", 0, [raw(1, 1)])]),
                 unit([believe("a", 0, [NUMBER, NUMBER]), own("c", 0, [raw(1, 1)])], (), 1)]
        self.assert_linked(units, ["thing", "a", "c"], ["owna", "ownb"])
        for mask in (0, 2, 3):
            units[1][0][2][2][0] = raw(1, mask)
            self.assert_refused(units, "unlike", "c")

    def test_by_names_not_by_numbers(self):
        # In the first unit a is 1 and b is 2, in the second b is 1 and a is 2.
        first = unit([own("a"), own("b"), believe("c", 1, [whole(2), raw(1, 0)])])
        self.assert_linked([first, unit([believe("b"), believe("a"), own("c", 2, [whole(1), raw(2, 0)])], (), 1)],
                           ["thing", "a", "b", "c"], ["owna", "ownb"],
                           [(None, []), (0, []), (0, []), (1, [whole(2), raw(1, 0)])])
        self.assert_refused([first, unit([believe("b"), believe("a"), own("c", 1, [whole(2), raw(1, 0)])], (), 1)],
                            "unlike", "c")
        self.assert_refused([first, unit([believe("b"), believe("a"), own("c", 2, [whole(2), raw(2, 0)])], (), 1)],
                            "unlike", "c")

    def test_a_make_that_names_itself_or_one_behind(self):
        kinds = [whole(1), whole(2), raw(2, 0)]
        self.assert_linked([unit([own("a", 0, kinds), believe("b")]),
                            unit([believe("a", 0, kinds), own("b")], (), 1)], ["thing", "a", "b"], ["owna", "ownb"],
                           [(None, []), (0, kinds), (0, [])])

    def test_own_fields_alone(self):
        # What the elder has is asked of the elder's own belief.
        first = unit([believe("a", 0, [NUMBER]), believe("b", 1, [ANY])])
        self.assert_linked([first, unit([own("a", 0, [NUMBER]), own("b", 1, [ANY])], (), 1)], ["thing", "a", "b"],
                           ["owna", "ownb"])
        self.assert_refused([first, unit([own("a", 0, [ANY]), own("b", 1, [ANY])], (), 1)], "unlike", "a")
        self.assert_refused([first, unit([own("a", 0, [NUMBER]), own("b", 1, [NUMBER])], (), 1)], "unlike", "b")

    def test_the_least_name_and_of_several_units(self):
        owner = unit([own("a"), own("b"), own("c")])
        self.assert_refused([owner, unit([believe("c", 0, [ANY]), believe("b", 0, [ANY])], (), 1)], "unlike", "b")
        self.assert_refused([owner, unit([believe("c", 0, [ANY])], (), 1), unit([believe("b", 0, [ANY])], (), 2)],
                            "unlike", "b")
        self.assert_refused([owner, unit([believe("a")], (), 1), unit([believe("a", 0, [ANY])], (), 2)], "unlike", "a")


class TestUnlikeParts(LinkCase):
    # Makes 0 - a - b, 0 - c, and c has two fields; in the second unit they have other numbers.
    FIRST = (own("a"), own("b", 1), own("c", 0, [NUMBER, NUMBER]))
    SECOND = (believe("c", 0, [NUMBER, NUMBER]), believe("a"), believe("b", 2))
    OTHER = {0: 0, 1: 2, 2: 3, 3: 1}

    def turned(self, kind):
        return kind if len(kind) == 1 else (kind[0], self.OTHER[kind[1]]) + kind[2:]

    def units(self, takes, gives, owned, given):
        believed = unit(self.FIRST, [has("m"), hopes("p", takes, gives)])
        return [believed, unit(self.SECOND, [has("p", [self.turned(kind) for kind in owned], self.turned(given))])]

    def assert_belief(self, takes, gives, owned, given, right):
        units = self.units(takes, gives, owned, given)
        if right:
            self.assert_linked(units, ["thing", "a", "c", "b"], ["m", "p"])
        else:
            self.assert_refused(units, "unlike", "p")

    KINDS = (ANY, NUMBER, whole(0), whole(1), whole(2), whole(3), raw(3, 0), raw(3, 1), raw(3, 2), raw(3, 3), raw(1, 0))
    # Of each kind, those that it is beneath, by hand.
    ABOVE = {ANY: [ANY], NUMBER: [ANY, NUMBER], whole(0): [ANY, whole(0)], whole(1): [ANY, whole(0), whole(1)],
             whole(2): [ANY, whole(0), whole(1), whole(2)], whole(3): [ANY, whole(0), whole(3)],
             raw(3, 0): [ANY, raw(3, 0)], raw(3, 1): [ANY, raw(3, 0), raw(3, 1)],
             raw(3, 2): [ANY, raw(3, 0), raw(3, 2)], raw(1, 0): [ANY, raw(1, 0)],
             raw(3, 3): [ANY, raw(3, 0), raw(3, 1), raw(3, 2), raw(3, 3)]}

    def test_each_pair_of_takes(self):
        for one in self.KINDS:
            for other in self.KINDS:
                self.assert_belief([one], NUMBER, [other], NUMBER, other in self.ABOVE[one])

    def test_each_pair_of_gives(self):
        for one in self.KINDS:
            for other in self.KINDS:
                self.assert_belief([], one, [], other, one in self.ABOVE[other])

    def test_how_many_takes(self):
        for many in range(4):
            for other in range(4):
                self.assert_belief([NUMBER] * many, NUMBER, [ANY] * other, NUMBER, many == other)

    def test_each_take(self):
        for k in range(3):
            takes = [NUMBER, whole(2), raw(3, 3)]
            owned = [ANY, whole(1), raw(3, 1)]
            self.assert_belief(takes, ANY, owned, whole(2), True)
            takes[k] = ANY
            self.assert_belief(takes, ANY, owned, whole(2), k == 0)
            self.assert_belief([NUMBER, whole(2), raw(3, 3)][:k], ANY, owned, whole(2), False)

    def test_the_least_name_and_of_several_units(self):
        owner = unit((), [has("a"), has("b"), has("c")])
        wrong = [hopes(name, [NUMBER]) for name in "cb"]
        self.assert_refused([owner, unit((), wrong)], "unlike", "b")
        self.assert_refused([owner, unit((), wrong[:1]), unit((), wrong[1:])], "unlike", "b")
        self.assert_refused([owner, unit((), [hopes("b")]), unit((), wrong[:1])], "unlike", "c")

    def test_under_one_another_as_the_owners_tell(self):
        # The unit that believes the part owns b, the elder of c; the third owns c.
        first = unit([believe("a"), own("b", 1), believe("c", 2)], [has("m"), hopes("p", [whole(3)], whole(1))])
        second = unit([own("a"), believe("b", 1)], [has("p", [whole(1)], whole(2))])
        third = unit([believe("a"), believe("b", 1), own("c", 2)], [has("n")])
        self.assert_linked([first, second, third], ["thing", "a", "b", "c"], ["m", "n", "p"])


class TestLarge(LinkCase):
    def makes(self, many, first=0):
        return [own("abcdefghijk"[k]) for k in range(first, first + many)]

    def parts(self, many, first=0):
        return [has("abcdefghijk"[k]) for k in range(first, first + many)]

    def test_makes(self):
        self.assert_linked([unit(self.makes(4)), unit(self.makes(3, 4), (), 1)], ["thing"] + list("abcdefg"),
                           ["owna", "ownb"])
        self.assert_linked([unit(self.makes(7))], ["thing"] + list("abcdefg"), ["owna"])
        self.assert_refused([unit(self.makes(4)), unit(self.makes(4, 4), (), 1)], "large", None)
        self.assert_refused([unit(self.makes(7)), unit(self.makes(1, 7), (), 1)], "large", None)

    def test_parts(self):
        self.assert_linked([unit((), self.parts(8))], ["thing"], list("abcdefgh"))
        self.assert_linked([unit((), self.parts(1, k)) for k in range(8)], ["thing"], list("abcdefgh"))
        self.assert_refused([unit((), self.parts(8)), unit((), self.parts(1, 8))], "large", None)
        self.assert_refused([unit((), self.parts(4)), unit((), self.parts(5, 4))], "large", None)
        self.assert_refused([unit(self.makes(4), self.parts(4)), unit(self.makes(4, 4), self.parts(5, 4))], "large",
                            None)

    def test_no_units(self):
        self.assert_refused([], "large", None)


class TestOrder(LinkCase):
    # Each wrong thing by itself, as what it adds to units that are right.
    STEPS = (("twice", "z", lambda: [unit([own("z"), own("z")], [has("pa")])]),
             ("twice", "y", lambda: [unit((), [has("y"), has("y")])]),
             ("lacks", "x", lambda: [unit([believe("x")], [has("pb")])]),
             ("lacks", "w", lambda: [unit((), [has("pc"), hopes("w")])]),
             ("unlike", "v", lambda: [unit([own("v")], [has("pd")]), unit([believe("v", 0, [ANY])], [has("pe")])]),
             ("unlike", "u", lambda: [unit((), [has("u")]), unit((), [hopes("u", [NUMBER])])]),
             ("large", None, lambda: [unit((), [has("l" + "abcdefgh"[k]) for k in range(8)]), unit((), [has("k")])]))

    def test_each_pair(self):
        for k, (word, name, some) in enumerate(self.STEPS):
            self.assert_refused(some(), word, name)
            for other in self.STEPS[k:]:
                units = some() + other[2]() if other is not self.STEPS[k] else some()
                self.assert_refused(units, word, name)

    def test_all_of_them(self):
        for k, (word, name, some) in enumerate(self.STEPS):
            units = [one for step in self.STEPS[k:] for one in step[2]()]
            for seed in range(3):
                random.Random(seed).shuffle(units)
                with self.assertRaises(NoLink) as caught:
                    linked(units)
                self.assertEqual((caught.exception.word, caught.exception.name), (word, name))


class TestLinked(LinkCase):
    def test_one_unit(self):
        # Makes 0 - d - a, 0 - b: by how many elders they have, then by names.
        makes = [own("d", 0, [NUMBER]), own("a", 1, [whole(3)]), own("b", 0, [raw(2, 3)])]
        self.assert_linked([unit(makes, [has("q", [whole(2)], whole(3)), has("p", [raw(1, 1)], NUMBER, 6)])],
                           ["thing", "b", "d", "a"], ["p", "q"],
                           [(None, []), (0, [raw(3, 3)]), (0, [NUMBER]), (2, [whole(1)])],
                           [([raw(2, 1)], NUMBER, 1, 1, [("push", 6), ("toss",)], []),
                            ([whole(3)], whole(1), 1, 1, [("push", 5), ("toss",)], [])])

    def test_the_makes_of_the_machines_tests(self):
        makes = [own(name, make[0], make[1]) for name, make in zip("cba", run_makes()[1:])]
        self.assert_linked([unit(makes)], ["thing", "a", "c", "b"], ["owna"],
                           [(None, []), (0, []), (0, [NUMBER, ANY]), (2, [whole(2)])])

    def test_the_order_of_makes(self):
        # z - y - x - w, one owned by each unit, and a beside them.
        units = [unit([own("z")]), unit([believe("z"), own("y", 1)], (), 1),
                 unit([believe("z"), believe("y", 1), own("x", 2), own("a", 1)], (), 2),
                 unit([believe("z"), believe("y", 1), believe("x", 2), own("w", 3)], (), 3)]
        self.assert_linked(units, ["thing", "z", "a", "y", "x", "w"], ["owna", "ownb", "ownc", "ownd"],
                           [(None, []), (0, []), (1, []), (1, []), (3, []), (4, [])])

    def test_every_row_is_turned(self):
        # In the unit y is 1 and x is 2, b is 0, a is 1 and m is 2.
        rows = [("make", 2), ("push", 4), ("fill", 2, 0), ("make", 1), ("begin", 1), ("fill", 2, 1), ("begin", 2),
                ("dup",), ("push", 5), ("put", 2, 0), ("kin", 1, 13), ("get", 2, 0), ("jump", 15), ("drop",),
                ("push", 6), ("store", 1), ("load", 1), ("call", 1), ("call", 0), ("dup",), ("say",), ("push", 3),
                ("zero", 23), ("give",)]
        turned = [("make", 1), ("push", 4), ("fill", 1, 0), ("make", 2), ("begin", 2), ("fill", 1, 1), ("begin", 1),
                  ("dup",), ("push", 5), ("put", 1, 0), ("kin", 2, 13), ("get", 1, 0), ("jump", 15), ("drop",),
                  ("push", 6), ("store", 1), ("load", 1), ("call", 0), ("call", 1), ("dup",), ("say",), ("push", 3),
                  ("zero", 23), ("give",)]
        stretches = [(17, 19, 23), (0, 1, 23)]
        takes = [NUMBER, whole(0)]
        first = unit([own("y"), own("x", 0, [NUMBER, whole(1)])],
                     [hopes("b", takes), has("a", [], whole(2)), ("m", [NUMBER], NUMBER, (3, 8, rows, stretches))])
        self.assert_linked([first, unit((), [has("b", takes)])], ["thing", "x", "y"], ["a", "b", "m"],
                           [(None, []), (0, [NUMBER, whole(2)]), (0, [])],
                           [([], whole(1), 0, 1, [("push", 5), ("toss",)], []),
                            (takes, NUMBER, 2, 1, [("push", 5), ("toss",)], []),
                            ([NUMBER], NUMBER, 3, 8, turned, stretches)])

    def test_a_part_that_calls_itself_and_others(self):
        def calls(*numbers):
            return (0, 1, [row for p in numbers for row in (("call", p), ("drop",))] + [("push", 0), ("give",)], [])

        first = unit((), [("c", [], NUMBER, calls(0, 1, 2)), hopes("a"), hopes("b")])
        second = unit((), [hopes("c"), ("b", [], NUMBER, calls(1, 0)), ("a", [], NUMBER, calls(2, 1))])
        book = self.assert_linked([first, second], ["thing"], ["a", "b", "c"])
        called = [[row[1] for row in part[4] if row[0] == "call"] for part in book[1]]
        self.assertEqual(called, [[0, 1], [1, 2], [2, 0, 1]])

    def test_a_belief_that_is_less_than_what_is(self):
        # It believes that p takes whole b and gives whole 0; p takes whole a, and gives whole b.
        rows = [("make", 2), ("begin", 2), ("call", 1), ("drop",), ("push", 4), ("give",)]
        first = unit([own("a"), own("b", 1)], [("m", [], NUMBER, (0, 1, rows, [])), hopes("p", [whole(2)], whole(0))])
        second = unit([believe("a"), believe("b", 1)],
                      [("p", [whole(1)], whole(2), (1, 1, [("make", 2), ("begin", 2), ("give",)], []))])
        book = self.assert_linked([first, second], ["thing", "a", "b"], ["m", "p"])
        self.assertEqual(run_watched(book, 0, [], 5), (("gave", 4), [], 4))
        self.assertEqual(book[1][1][:2], ([whole(1)], whole(2)))


class TestLists(unittest.TestCase):
    def units(self):
        units = [unit([own("a", 0, [NUMBER, whole(2)]), believe("b")], [has("p", [whole(1)]), hopes("q")]),
                 unit([own("b")], [has("q")])]
        return [copy.deepcopy(one) for one in units]

    def lists_in(self, thing):
        found = [thing] if isinstance(thing, list) else []
        for inner in thing if isinstance(thing, (list, tuple)) else ():
            found.extend(self.lists_in(inner))
        return found

    def test_each_list_is_new_and_stays(self):
        units = self.units()
        told, other = linked(units), linked(units)
        before = copy.deepcopy(told)
        found = [id(some) for some in self.lists_in((told, other, units))]
        self.assertEqual(len(found), len(set(found)))
        for some in self.lists_in(other):
            some.append("spoilt")
        self.assertEqual((told, linked(units)), (before, before))
        for some in self.lists_in(units):
            some.append("spoilt")
        self.assertEqual(told, before)


class Cutter:
    """Cuts a book that is let by into units, by chance; in some of them less is believed than what is so."""

    def __init__(self, book, seed):
        self.chance = random.Random(seed)
        self.makes, self.parts = book
        names = ["a", "b", "c", "ab", "abc", "z", "zz", "part", "make", "thin", "things", "abcdefgh"]
        self.make_names = ["thing"] + self.chance.sample(names, len(self.makes) - 1)
        self.part_names = self.chance.sample(names + ["thing"], len(self.parts))
        self.many = self.chance.randint(1, 4)
        self.make_owners = [None] + [self.chance.randrange(self.many) for make in self.makes[1:]]
        self.part_owners = [self.chance.randrange(self.many) for part in self.parts]

    def units(self):
        return [self.unit(number) for number in range(self.many)]

    def named_in(self, kinds):
        return [kind[1] for kind in kinds if kind[0] in ("whole", "raw")]

    def numbers_in(self, rows, word):
        return [number for row in rows for want, number in zip(wants(row[0]), row[1:]) if want == word]

    def unit(self, number):
        chance = self.chance
        parts = [p for p, owner in enumerate(self.part_owners) if owner == number or chance.random() < 0.1]
        if not parts:
            parts = [chance.randrange(len(self.parts))]
        owned = [p for p in parts if self.part_owners[p] == number]
        for p in owned:
            parts.extend(q for q in self.numbers_in(self.parts[p][4], "part") if q not in parts)
        parts = list(dict.fromkeys(parts))
        chance.shuffle(parts)
        makes = [c for c, owner in enumerate(self.make_owners) if owner == number or c > 0 and chance.random() < 0.1]
        for p in parts:
            makes.extend(self.named_in(self.parts[p][0] + [self.parts[p][1]]))
        for p in owned:
            makes.extend(self.numbers_in(self.parts[p][4], "make"))
        return self.told(number, self.ordered(makes), parts)

    # All that the makes need, elders first, but else by chance.
    def ordered(self, makes):
        needed = set()
        waiting = [c for c in makes if c > 0]
        while waiting:
            c = waiting.pop()
            if c and c not in needed:
                needed.add(c)
                waiting.extend([self.makes[c][0]] + self.named_in(self.makes[c][1]))
        order = [0]
        while needed:
            c = self.chance.choice(sorted(c for c in needed if self.makes[c][0] in order))
            order.append(c)
            needed.remove(c)
        return order

    def told(self, number, makes, parts):
        def kind(told):
            return told if len(told) == 1 else (told[0], makes.index(told[1])) + told[2:]

        def row(told):
            turned = {"make": makes.index, "part": parts.index}
            return told[:1] + tuple(turned.get(want, int)(thing) for want, thing in zip(wants(told[0]), told[1:]))

        given = [THING]
        for c in makes[1:]:
            given.append((self.make_names[c], makes.index(self.makes[c][0]), [kind(one) for one in self.makes[c][1]],
                          self.make_owners[c] == number))
        some = []
        for p in parts:
            takes, gives, boxes, height, rows, stretches = self.parts[p]
            body = None
            if self.part_owners[p] == number:
                body = (boxes, height, [row(one) for one in rows], list(stretches))
            some.append((self.part_names[p], [kind(one) for one in takes], kind(gives), body))
        return (given, self.less_believed(given, some))

    # Believes of some part that it takes less or gives more, where the unit still stands alone.
    def less_believed(self, makes, parts):
        book_makes = book_of((makes, parts))[0]
        kinds = [ANY, NUMBER] + [whole(c) for c in range(len(makes))] + [raw(c, 0) for c in range(len(makes))]
        for k, (name, takes, gives, body) in enumerate(parts):
            if body is None and self.chance.random() < 0.7:
                takes = [self.chance.choice([one] + [kind for kind in kinds if beneath(book_makes, kind, one)])
                         for one in takes]
                gives = self.chance.choice([gives] + [kind for kind in kinds if beneath(book_makes, gives, kind)])
                other = parts[:k] + [(name, takes, gives, None)] + parts[k + 1:]
                try:
                    warded(book_of((makes, other)))
                    parts = other
                except NoPass:
                    pass
        return parts

    # What the book is, told in the order that the linker tells it.
    def linked(self):
        def depth(c):
            return 0 if c == 0 else 1 + depth(self.makes[c][0])

        makes = sorted(range(len(self.makes)), key=lambda c: (depth(c), self.make_names[c]))
        parts = sorted(range(len(self.parts)), key=lambda p: self.part_names[p])

        def kind(told):
            return told if len(told) == 1 else (told[0], makes.index(told[1])) + told[2:]

        def row(told):
            turned = {"make": makes.index, "part": parts.index}
            return told[:1] + tuple(turned.get(want, int)(thing) for want, thing in zip(wants(told[0]), told[1:]))

        book = ([(None if c == 0 else makes.index(self.makes[c][0]), [kind(one) for one in self.makes[c][1]])
                 for c in makes],
                [([kind(one) for one in takes], kind(gives), boxes, height, [row(one) for one in rows], stretches)
                 for takes, gives, boxes, height, rows, stretches in (self.parts[p] for p in parts)])
        return (book, [self.make_names[c] for c in makes], [self.part_names[p] for p in parts]), parts


def whole_books():
    for seed in range(250):
        try:
            yield seed, made(ProgramMaker(seed).made())[0]
        except TooLarge:
            pass
    for seed in range(250, 500):
        book = BookMaker(seed).made()
        try:
            warded(book)
            yield seed, book
        except NoPass:
            pass


class TestByChance(unittest.TestCase):
    def test_what_was_cut_is_linked_again(self):
        less = 0
        units_in_all = 0
        for seed, book in whole_books():
            cutter = Cutter(book, seed)
            units = cutter.units()
            before = copy.deepcopy(units)
            expected, order = cutter.linked()
            told = linked(units)
            self.assertEqual(units, before, seed)
            self.assertEqual(told, expected, seed)
            self.assertEqual(linked(units[::-1]), expected, seed)
            check_book(told[0])
            warded(told[0])
            units_in_all += len(units)
            less += any(part[3] is None and part[1:3] != self.owned(units, part[0]) for one in units for part in one[1])
            for part in doors(book)[:2]:
                inputs = [3] * len(book[1][part][0])
                for budget in (0, 7, 60):
                    expected_run = run_watched(book, part, inputs, budget)
                    self.assertEqual(run_watched(told[0], order.index(part), inputs, budget), expected_run)
                    self.assertEqual(run(told[0], order.index(part), inputs, budget), expected_run)
        self.assertGreater(units_in_all, 700)
        self.assertGreater(less, 50)

    def owned(self, units, name):
        return [part[1:3] for one in units for part in one[1] if part[0] == name and part[3] is not None][0]

    # A belief that is changed in one kind is refused, or what is linked is as it was.
    def test_changed_beliefs(self):
        refused = {}
        for seed, book in whole_books():
            units = Cutter(book, seed).units()
            told = linked(units)
            chance = random.Random(seed)
            for k in range(4):
                changed = copy.deepcopy(units)
                one = chance.choice(changed)
                believed = [p for p, part in enumerate(one[1]) if part[3] is None]
                hoped = [c for c, make in enumerate(one[0]) if c and not make[3]]
                kind = chance.choice([ANY, NUMBER, whole(chance.randrange(len(one[0])))])
                if believed and (not hoped or chance.random() < 0.5):
                    p = chance.choice(believed)
                    one[1][p] = one[1][p][:2] + (kind, None) if chance.random() < 0.5 else (
                        one[1][p][0], one[1][p][1] + [kind], one[1][p][2], None)
                elif hoped:
                    c = chance.choice(hoped)
                    one[0][c] = (one[0][c][0], one[0][c][1], (one[0][c][2] + [kind])[1:], False)
                try:
                    self.assertEqual(linked(changed), told, seed)
                    refused[None] = refused.get(None, 0) + 1
                except WardenError as refusal:
                    word = refusal.word if isinstance(refusal, NoLink) else type(refusal).__name__
                    refused[word] = refused.get(word, 0) + 1
        self.assertGreater(refused["unlike"], 50)
        self.assertGreater(refused[None], 50)


if __name__ == "__main__":
    unittest.main()
