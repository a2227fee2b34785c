import copy
import unittest

from samples import ANY, MASKS, NUMBER, UNDER, all_kinds, some_makes
from stackwarden.values import has_kind


# A record of each make with each mask, begun or not, each number among them.
def some_heap():
    heap = []
    for c, full in MASKS.items():
        for mask in range(full + 1):
            fields = tuple(("number", f) if mask & (1 << f) else None for f in range(full.bit_length()))
            heap.append((c, False, mask, fields))
            heap.append((c, True, mask, fields))
    return heap


class TestHasKind(unittest.TestCase):
    def assert_kinds(self, value, rightly):
        makes = some_makes()
        heap = some_heap()
        for kind in all_kinds():
            told = has_kind(makes, heap, value, kind)
            self.assertIs(told, rightly(kind), (value, kind))
        self.assertEqual((makes, heap), (some_makes(), some_heap()))

    def test_nothing(self):
        self.assert_kinds(None, lambda kind: kind == ANY)

    def test_numbers(self):
        for word in (0, 1, 2, -1, 2147483647, -2147483648):
            self.assert_kinds(("number", word), lambda kind: kind in (ANY, NUMBER))

    def test_records(self):
        heap = some_heap()
        self.assertEqual(len(heap), 2 * sum(mask + 1 for mask in MASKS.values()))
        for n, (c, begun, mask, fields) in enumerate(heap):
            def rightly(kind):
                if kind[0] == "whole":
                    return begun and kind[1] in UNDER[c]
                if kind[0] == "raw":
                    return kind[1] == c and all(mask & (1 << f) for f in range(6) if kind[2] & (1 << f))
                return kind == ANY
            self.assert_kinds(("record", n), rightly)

    def test_by_hand(self):
        makes = some_makes()
        heap = [(5, True, 63, (("number", 1),) * 6), (5, False, 5, (None,) * 6), (0, True, 0, ()), (0, False, 0, ())]
        for n, kind, expected in (
                (0, ("whole", 5), True), (0, ("whole", 3), True), (0, ("whole", 1), True), (0, ("whole", 0), True),
                (0, ("whole", 4), False), (0, ("whole", 2), False), (0, ("raw", 5, 63), True),
                (0, ("raw", 3, 0), False), (0, NUMBER, False), (0, ANY, True),
                (1, ("whole", 5), False), (1, ("whole", 0), False), (1, ("raw", 5, 5), True),
                (1, ("raw", 5, 4), True), (1, ("raw", 5, 7), False), (1, ("raw", 5, 2), False),
                (2, ("whole", 0), True), (2, ("whole", 7), False), (2, ("raw", 0, 0), True),
                (3, ("whole", 0), False), (3, ("raw", 0, 0), True), (3, ("raw", 7, 0), False)):
            self.assertIs(has_kind(makes, heap, ("record", n), kind), expected, (n, kind))

    def test_the_value_stays(self):
        heap = some_heap()
        before = copy.deepcopy(heap)
        for n in range(len(heap)):
            has_kind(some_makes(), heap, ("record", n), ("raw", 5, 63))
        self.assertEqual(heap, before)


if __name__ == "__main__":
    unittest.main()
