"""What a kind holds, and what its records have at a path."""

from meetvalue.kinds import ALL_LISTS, NO_LISTS, NO_RECORDS, NOTHING, less
from meetvalue.making import of_record
from meetvalue.mixing import part_in
from meetvalue.spans import in_spans, number_of
from meetvalue.tables import Table, entered, told
from meetvalue.texts import in_texts, text_of

LETTERS = "abcdefghijklmnopqrstuvwxyz"


def holds(kind, thing):
    if thing[0] == "none":
        return kind[0]
    if thing[0] == "truth":
        return thing[1] in kind[1]
    if thing[0] == "number":
        return in_spans(kind[2], thing[1])
    if thing[0] == "text":
        return in_texts(kind[3], thing[1])
    if thing[0] == "list":
        return lets_list_in(kind[4], thing[1])
    return lets_record_in(kind[5], thing[1])


def lets_list_in(form, items):
    here = form
    for item in items:
        if here[0] != "first":
            return here == ALL_LISTS
        here = form_behind(here[2], item, NO_LISTS)
    return here[1] if here[0] == "first" else here == ALL_LISTS


def lets_record_in(form, fields):
    here = form
    left = dict(fields)
    while here[0] == "name":
        if here[1] in left:
            here = form_behind(here[3], left.pop(here[1]), NO_RECORDS)
        else:
            here = here[2]
    return here[2] if len(left) > 0 else here[1]


def form_behind(branches, thing, none):
    for kind, form in branches:
        if holds(kind, thing):
            return form
    return none


def thing_of(kind):
    if kind[0]:
        return ("none",)
    if kind[1] != ():
        return ("truth", kind[1][0])
    if kind[2] != ():
        return ("number", number_of(kind[2]))
    if kind[3] != ("only", ()):
        return ("text", text_of(kind[3]))
    if kind[4] != NO_LISTS:
        return list_of(kind[4])
    return record_of(kind[5]) if kind[5] != NO_RECORDS else None


# No branch lets nothing in, so the first one will do, here and with records.
def list_of(form):
    here = form
    items = []
    while here[0] == "first" and not here[1]:
        items.append(thing_of(here[2][0][0]))
        here = here[2][0][1]
    return ("list", tuple(items))


def record_of(form):
    here = form
    looked_at = []
    fields = []
    while here[0] == "name":
        looked_at.append(here[1])
        if here[2] != NO_RECORDS:
            here = here[2]
        else:
            fields.append((here[1], thing_of(here[3][0][0])))
            here = here[3][0][1]
    if not here[1]:
        fields.append((name_beyond(looked_at), ("none",)))
    return ("record", tuple(sorted(fields)))


def name_beyond(names):
    number = 0
    while name_by(number) in names:
        number += 1
    return name_by(number)


# Short ones first: a to z, then aa to zz, and so on.
def name_by(number):
    name = LETTERS[number % 26]
    left = number // 26
    while left > 0:
        name = LETTERS[(left - 1) % 26] + name
        left = (left - 1) // 26
    return name


def only(kind):
    return thing_of(kind) if has_one(kind) else None


# A kind has one thing where no other one could be taken on the way to it.
def has_one(kind):
    sorts = [sort for sort, empty in enumerate(NOTHING) if kind[sort] != empty]
    if len(sorts) != 1:
        return False
    if sorts[0] == 2:
        return len(kind[2]) == 1 and kind[2][0][0] == kind[2][0][1] != ()
    if sorts[0] == 4:
        return has_one_list(kind[4])
    if sorts[0] == 5:
        return has_one_record(kind[5])
    return kind[0] or len(kind[1]) == 1 or (kind[3][0] == "only" and len(kind[3][1]) == 1)


def has_one_list(form):
    here = form
    while here[0] == "first" and not here[1]:
        if len(here[2]) > 1 or not has_one(here[2][0][0]):
            return False
        here = here[2][0][1]
    return here == ("first", True, ())


def has_one_record(form):
    here = form
    while here[0] == "name":
        if here[3] == ():
            here = here[2]
        elif here[2] == NO_RECORDS and len(here[3]) == 1 and has_one(here[3][0][0]):
            here = here[3][0][1]
        else:
            return False
    return here == ("rest", True, False)


def beyond(one, other):
    return thing_of(less(one, other))


def part(kind, path):
    table = Table()
    return told(table, part_in(table, entered(table, kind), path))


def placed(path, kind):
    here = kind
    for name in reversed(path):
        here = of_record([(name, here, True)], True)
    return here
