import unittest

from samples import ANY, MASKS, NUMBER, UNDER, all_kinds, some_makes
from stackwarden.kinds import beneath, fields_of, full_mask, is_under, joined


class TestMakes(unittest.TestCase):
    def test_fields(self):
        makes = some_makes()
        one = [NUMBER, ("whole", 5)]
        self.assertEqual(fields_of(makes, 0), [])
        self.assertEqual(fields_of(makes, 1), one)
        self.assertEqual(fields_of(makes, 2), [("raw", 6, 1)])
        self.assertEqual(fields_of(makes, 3), one + [ANY])
        self.assertEqual(fields_of(makes, 4), one)
        self.assertEqual(fields_of(makes, 5), one + [ANY, ("whole", 0), NUMBER, ("whole", 1)])
        self.assertEqual(fields_of(makes, 6), [("raw", 6, 1), NUMBER])
        self.assertEqual(fields_of(makes, 7), [])
        self.assertEqual(makes, some_makes())

    def test_make_nought_alone(self):
        makes = [(None, [])]
        self.assertEqual(fields_of(makes, 0), [])
        self.assertEqual(full_mask(makes, 0), 0)
        self.assertIs(is_under(makes, 0, 0), True)

    def test_a_long_line_of_elders(self):
        makes = [(None, [])] + [(k, [NUMBER] if k < 6 else []) for k in range(7)]
        self.assertEqual(fields_of(makes, 7), [NUMBER] * 6)
        self.assertEqual(full_mask(makes, 7), 63)
        for c in range(8):
            for other in range(8):
                self.assertIs(is_under(makes, c, other), other <= c)

    def test_fields_are_told_for_good(self):
        makes = some_makes()
        told = fields_of(makes, 1)
        makes[1][1].append(ANY)
        makes[1] = (0, [])
        self.assertEqual(told, [NUMBER, ("whole", 5)])

    def test_told_fields_may_be_changed(self):
        makes = some_makes()
        for c in range(8):
            told = fields_of(makes, c)
            told.append(NUMBER)
            told[0] = ("whole", 7)
        self.assertEqual(makes, some_makes())
        self.assertEqual(fields_of(makes, 1), [NUMBER, ("whole", 5)])

    def test_under(self):
        makes = some_makes()
        for c in range(8):
            for other in range(8):
                self.assertIs(is_under(makes, c, other), other in UNDER[c], (c, other))
        self.assertEqual(makes, some_makes())

    def test_full_mask(self):
        makes = some_makes()
        for c in range(8):
            self.assertEqual(full_mask(makes, c), MASKS[c])
            self.assertIs(type(full_mask(makes, c)), int)
        self.assertEqual(makes, some_makes())

    def test_asked_anew_when_makes_are_changed(self):
        makes = some_makes()
        self.assertEqual(full_mask(makes, 3), 7)
        makes[1] = (0, [])
        self.assertEqual((full_mask(makes, 3), fields_of(makes, 3)), (1, [ANY]))


class TestBeneath(unittest.TestCase):
    def expected(self, kind, other):
        if other == ANY or kind == other:
            return True
        if kind[0] == "whole" and other[0] == "whole":
            return other[1] in UNDER[kind[1]]
        if kind[0] == "raw" and other[0] == "raw":
            return kind[1] == other[1] and all(kind[2] >> f & 1 for f in range(6) if other[2] >> f & 1)
        return False

    def test_each_with_each(self):
        makes = some_makes()
        for kind in all_kinds():
            for other in all_kinds():
                self.assertIs(beneath(makes, kind, other), self.expected(kind, other), (kind, other))
        self.assertEqual(makes, some_makes())

    def test_itself_and_any(self):
        makes = some_makes()
        for kind in all_kinds():
            self.assertIs(beneath(makes, kind, kind), True)
            self.assertIs(beneath(makes, kind, ANY), True)
            self.assertIs(beneath(makes, ANY, kind), kind == ANY)

    def test_examples(self):
        makes = some_makes()
        self.assertIs(beneath(makes, ("whole", 5), ("whole", 1)), True)
        self.assertIs(beneath(makes, ("whole", 1), ("whole", 5)), False)
        self.assertIs(beneath(makes, ("whole", 4), ("whole", 3)), False)
        self.assertIs(beneath(makes, ("raw", 1, 3), ("raw", 1, 1)), True)
        self.assertIs(beneath(makes, ("raw", 1, 1), ("raw", 1, 3)), False)
        self.assertIs(beneath(makes, ("raw", 1, 1), ("raw", 1, 2)), False)
        self.assertIs(beneath(makes, ("raw", 3, 3), ("raw", 1, 3)), False)
        self.assertIs(beneath(makes, ("raw", 1, 3), ("whole", 1)), False)
        self.assertIs(beneath(makes, ("whole", 1), ("raw", 1, 0)), False)
        self.assertIs(beneath(makes, NUMBER, ("whole", 0)), False)
        self.assertIs(beneath(makes, NUMBER, ("raw", 0, 0)), False)


class TestJoined(unittest.TestCase):
    def test_least_that_both_are_beneath(self):
        makes = some_makes()
        kinds = [kind for kind in all_kinds() if kind[:2] != ("raw", 5) or kind[2] in (0, 5, 6, 63)]
        for kind in kinds:
            for other in kinds:
                told = joined(makes, kind, other)
                self.assertTrue(beneath(makes, kind, told) and beneath(makes, other, told), (kind, other))
                for above in all_kinds():
                    if beneath(makes, kind, above) and beneath(makes, other, above):
                        self.assertTrue(beneath(makes, told, above), (kind, other, told, above))
                self.assertEqual(joined(makes, other, kind), told)
        self.assertEqual(makes, some_makes())

    def test_wholes(self):
        makes = some_makes()
        for one, other, near in ((4, 5, 1), (4, 3, 1), (5, 3, 3), (3, 5, 3), (5, 1, 1), (5, 6, 0), (7, 4, 0),
                                 (2, 6, 2), (0, 5, 0), (5, 5, 5), (7, 2, 0), (0, 0, 0)):
            self.assertEqual(joined(makes, ("whole", one), ("whole", other)), ("whole", near))
            self.assertEqual(joined(makes, ("whole", other), ("whole", one)), ("whole", near))

    def test_raws(self):
        makes = some_makes()
        self.assertEqual(joined(makes, ("raw", 5, 45), ("raw", 5, 39)), ("raw", 5, 37))
        self.assertEqual(joined(makes, ("raw", 5, 8), ("raw", 5, 7)), ("raw", 5, 0))
        self.assertEqual(joined(makes, ("raw", 1, 3), ("raw", 1, 3)), ("raw", 1, 3))
        self.assertEqual(joined(makes, ("raw", 1, 3), ("raw", 3, 3)), ANY)
        self.assertEqual(joined(makes, ("raw", 0, 0), ("raw", 7, 0)), ANY)

    def test_others(self):
        makes = some_makes()
        self.assertEqual(joined(makes, NUMBER, NUMBER), NUMBER)
        self.assertEqual(joined(makes, ANY, ANY), ANY)
        sorts = [ANY, NUMBER, ("whole", 1), ("raw", 1, 3)]
        for one in sorts:
            for other in sorts:
                self.assertEqual(joined(makes, one, other), one if one == other else ANY)


if __name__ == "__main__":
    unittest.main()
