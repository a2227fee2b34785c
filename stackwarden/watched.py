"""The watched machine: values have tags, and each row is looked at ahead of it."""

from stackwarden.asks import asked, leaves
from stackwarden.kinds import fields_of
from stackwarden.plain import Plain
from stackwarden.spots import replaced
from stackwarden.values import has_kind


class Watched(Plain):
    def nothing(self):
        return None

    def tagged(self, tag, number):
        return (tag, number)

    def bare(self, value):
        return value[1]

    def new_record(self, c):
        return (c, False, 0, (None,) * len(fields_of(self.book[0], c)))

    def with_field(self, record, f, value):
        return (record[0], record[1], record[2] | (1 << f), replaced(record[3], f, value))

    def as_begun(self, record):
        return (record[0], True, record[2], record[3])

    def looked(self, frame, row):
        wanted = asked(self.book, frame.part, row)
        under = len(frame.stack) - len(wanted)
        if under < 0:
            return "empty"
        for value, kind in zip(frame.stack[under:], wanted):
            if not has_kind(self.book[0], self.records, value, kind):
                return "kind"
        if under + leaves(row) > self.book[1][frame.part][3]:
            return "high"
        return None
