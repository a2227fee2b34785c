"""The linker: makes one book of units that each stand alone."""

from stackwarden.books import MOST_MAKES, MOST_PARTS, check_book
from stackwarden.errors import NoLink
from stackwarden.kinds import beneath, elders_of
from stackwarden.stands import all_beneath
from stackwarden.turns import turned_kind, turned_kinds, turned_make, turned_part
from stackwarden.units import book_of, make_claims, part_claims
from stackwarden.warden import warded

# The one make that no unit owns.
THING = "thing"


def check_alone(unit):
    book = book_of(unit)
    check_book(book)
    warded(book)


# Of several names that are wrong by one word the least is told.
def refuse(word, names):
    if len(names) > 0:
        raise NoLink(word, min(names))


# Here and below, claims are a list of what each unit claims: tuples of a name and whether it is owned.
def named_twice(claims):
    wrong = []
    owned = []
    for some in claims:
        names = [claim[0] for claim in some]
        wrong = wrong + [name for name in names if names.count(name) > 1]
        owned = owned + [claim[0] for claim in some if claim[1]]
    return wrong + [name for name in owned if owned.count(name) > 1]


# Where each name is owned: the unit's number, and the number that the make or part has there.
def owners_of(claims):
    owners = {}
    for unit, some in enumerate(claims):
        for number, claim in enumerate(some):
            if claim[1]:
                owners[claim[0]] = (unit, number)
    return owners


def lacking(claims, owners):
    wrong = []
    for some in claims:
        wrong = wrong + [claim[0] for claim in some if claim[0] not in owners]
    return wrong


# The make thing is left out: it is the first one of each unit, and true.
def lacking_makes(claims, owners):
    return lacking([some[1:] for some in claims], owners)


def names_of(some):
    return [told[0] for told in some]


# What the unit at which a make is owned tells of it, makes by their names.
def make_owned(units, owner):
    unit = units[owner[0]]
    return turned_make(unit[0][owner[1]], names_of(unit[0]))


def unlike_makes(units, owners):
    wrong = []
    for unit in units:
        for make in unit[0][1:]:
            if turned_make(make, names_of(unit[0])) != make_owned(units, owners[make[0]]):
                wrong.append(make[0])
    return wrong


def count_elders(units, owner):
    return len(elders_of(book_of(units[owner[0]])[0], owner[1]))


def order_of_makes(units, owners):
    return [THING] + sorted(owners, key=lambda name: (count_elders(units, owners[name]), name))


# The numbers in the book of one unit's makes, or of its parts.
def numbers_of(some, names):
    return [names.index(claim[0]) for claim in some]


def linked_makes(units, owners, numbers, names):
    makes = [(None, [])]
    for name in names[1:]:
        owner = owners[name]
        makes.append(turned_make(units[owner[0]][0][owner[1]], numbers[owner[0]]))
    return makes


# Whether a part, believed in the first unit, is what the second one owns; numbers are those of each one's makes.
def is_true_part(makes, part, numbers, owned, others):
    if not all_beneath(makes, turned_kinds(part[1], numbers), turned_kinds(owned[1], others)):
        return False
    return beneath(makes, turned_kind(owned[2], others), turned_kind(part[2], numbers))


def unlike_parts(units, owners, numbers, makes):
    wrong = []
    for unit, told in enumerate(units):
        for part in told[1]:
            owner = owners[part[0]]
            owned = units[owner[0]][1][owner[1]]
            if not is_true_part(makes, part, numbers[unit], owned, numbers[owner[0]]):
                wrong.append(part[0])
    return wrong


def check_size(make_names, part_names):
    if len(make_names) > MOST_MAKES or not 1 <= len(part_names) <= MOST_PARTS:
        raise NoLink("large", None)


def linked_parts(units, owners, make_numbers, part_numbers, names):
    parts = []
    for name in names:
        owner = owners[name]
        told = units[owner[0]][1][owner[1]]
        parts.append(turned_part(told, make_numbers[owner[0]], part_numbers[owner[0]]))
    return parts


def linked(units):
    for unit in units:
        check_alone(unit)
    make_told = [make_claims(unit) for unit in units]
    part_told = [part_claims(unit) for unit in units]
    refuse("twice", named_twice(make_told))
    refuse("twice", named_twice(part_told))
    make_owners = owners_of(make_told)
    part_owners = owners_of(part_told)
    refuse("lacks", lacking_makes(make_told, make_owners))
    refuse("lacks", lacking(part_told, part_owners))
    refuse("unlike", unlike_makes(units, make_owners))
    make_names = order_of_makes(units, make_owners)
    part_names = sorted(part_owners)
    make_numbers = [numbers_of(some, make_names) for some in make_told]
    part_numbers = [numbers_of(some, part_names) for some in part_told]
    makes = linked_makes(units, make_owners, make_numbers, make_names)
    refuse("unlike", unlike_parts(units, part_owners, make_numbers, makes))
    check_size(make_names, part_names)
    parts = linked_parts(units, part_owners, make_numbers, part_numbers, part_names)
    return ((makes, parts), make_names, part_names)
