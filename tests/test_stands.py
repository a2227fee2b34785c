import unittest

from samples import ANY, NUMBER, some_makes
from stackwarden.stands import stand_beneath, stand_joined

ONE = ((NUMBER, ("whole", 5), ("raw", 5, 7)), (("whole", 3), NUMBER))
ABOVE = ((ANY, ("whole", 1), ("raw", 5, 3)), (("whole", 3), ANY))


class TestBeneath(unittest.TestCase):
    def test_itself(self):
        for stand in (ONE, ABOVE, ((), ()), ((NUMBER,), ()), ((), (NUMBER,))):
            self.assertIs(stand_beneath(some_makes(), stand, stand), True)

    def test_each_spot_beneath(self):
        makes = some_makes()
        self.assertIs(stand_beneath(makes, ONE, ABOVE), True)
        self.assertIs(stand_beneath(makes, ABOVE, ONE), False)
        self.assertEqual(makes, some_makes())

    def test_one_spot_that_is_not(self):
        for side in (0, 1):
            for spot in range(len(ONE[side])):
                kinds = list(ONE[side])
                kinds[spot] = ("whole", 7)
                wrong = (tuple(kinds), ONE[1]) if side == 0 else (ONE[0], tuple(kinds))
                self.assertIs(stand_beneath(some_makes(), wrong, ONE), False, wrong)
                self.assertIs(stand_beneath(some_makes(), ONE, wrong), False, wrong)

    def test_one_more_or_less(self):
        makes = some_makes()
        for longer in ((ONE[0] + (ANY,), ONE[1]), (ONE[0], ONE[1] + (ANY,)), (ONE[0], (ANY,) + ONE[1]),
                       (ONE[0] + (ANY,), ONE[1] + (ANY,)), (ONE[0] + (ANY,), ONE[1][:-1])):
            self.assertIs(stand_beneath(makes, ONE, longer), False)
            self.assertIs(stand_beneath(makes, longer, ONE), False)
        self.assertIs(stand_beneath(makes, ((), ()), ((), (ANY,))), False)
        self.assertIs(stand_beneath(makes, ((), (NUMBER,)), ((), ())), False)
        self.assertIs(stand_beneath(makes, ((NUMBER,), ()), ((), ())), False)
        self.assertIs(stand_beneath(makes, ((NUMBER,), ()), ((), (NUMBER,))), False)


class TestJoined(unittest.TestCase):
    def test_spot_by_spot(self):
        makes = some_makes()
        one = ((NUMBER, ("whole", 5), ("raw", 5, 6)), (("whole", 4), NUMBER))
        other = ((ANY, ("whole", 4), ("raw", 5, 3)), (("whole", 6), NUMBER))
        expected = ((ANY, ("whole", 1), ("raw", 5, 2)), (("whole", 0), NUMBER))
        for told in (stand_joined(makes, one, other), stand_joined(makes, other, one)):
            self.assertEqual(told, expected)
            self.assertIs(type(told), tuple)
            self.assertEqual([type(side) for side in told], [tuple, tuple])
            self.assertTrue(stand_beneath(makes, one, told) and stand_beneath(makes, other, told))
        self.assertEqual(makes, some_makes())

    def test_spots_stay_in_order(self):
        one = ((), (NUMBER, ("whole", 3), ("raw", 1, 1)))
        other = ((), (NUMBER, NUMBER, ("raw", 1, 3)))
        self.assertEqual(stand_joined(some_makes(), one, other), ((), (NUMBER, ANY, ("raw", 1, 1))))

    def test_with_itself_and_without_kinds(self):
        for stand in (ONE, ABOVE, ((), ()), ((NUMBER,), ())):
            self.assertEqual(stand_joined(some_makes(), stand, stand), stand)


if __name__ == "__main__":
    unittest.main()
