import unittest

from stackwarden.errors import (
    NoBook, NoCode, NoDoor, NoLink, NoPaper, NoPass, NoRow, NoTree, Nought, TooLarge, WardenError,
)

FIELDS = {
    Nought: (),
    NoRow: ("at",),
    NoCode: ("at", "word"),
    NoBook: ("part", "at"),
    NoDoor: (),
    NoPass: ("part", "at", "word"),
    NoPaper: ("part", "at", "word"),
    NoTree: ("part",),
    TooLarge: ("part",),
    NoLink: ("word", "name"),
}


class TestErrors(unittest.TestCase):
    def test_ten_classes(self):
        self.assertEqual(len(FIELDS), 10)

    def test_stand_under_warden_error_alone(self):
        self.assertTrue(issubclass(WardenError, ValueError))
        for one in FIELDS:
            self.assertTrue(issubclass(one, WardenError), one)
            self.assertTrue(issubclass(one, ValueError), one)
            self.assertFalse(issubclass(WardenError, one), one)
            for other in FIELDS:
                if other != one:
                    self.assertFalse(issubclass(one, other), (one, other))

    def test_fields_are_kept(self):
        for made, names in FIELDS.items():
            given = [f"{name} of {made.__name__}" for name in names]
            error = made(*given)
            self.assertEqual([getattr(error, name) for name in names], given)

    def test_two_side_by_side(self):
        for made, names in FIELDS.items():
            one = made(*[10 + k for k in range(len(names))])
            other = made(*[20 + k for k in range(len(names))])
            self.assertEqual([getattr(one, name) for name in names], [10 + k for k in range(len(names))])
            self.assertEqual([getattr(other, name) for name in names], [20 + k for k in range(len(names))])

    def test_none_is_kept(self):
        self.assertEqual((NoBook(None, None).part, NoBook(None, None).at), (None, None))
        self.assertEqual((NoBook(3, None).part, NoBook(3, None).at), (3, None))
        self.assertIsNone(NoTree(None).part)
        self.assertEqual((NoLink("large", None).word, NoLink("large", None).name), ("large", None))

    def test_number_of_things_is_held(self):
        for made, names in FIELDS.items():
            if names:
                with self.assertRaises(TypeError):
                    made(*[1] * (len(names) - 1))
                with self.assertRaises(TypeError):
                    made(*[1] * (len(names) + 1))

    def test_each_is_taken_as_a_warden_error(self):
        for made, names in FIELDS.items():
            with self.assertRaises(WardenError):
                raise made(*[0 for name in names])


if __name__ == "__main__":
    unittest.main()
