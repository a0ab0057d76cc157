"""The making of kinds."""

from meetvalue.kinds import ALL_LISTS, ANY, NO_LISTS, NO_RECORDS, NOTHING
from meetvalue.spans import spans_of

# As their parts stand in a kind; a thing begins with the same words.
SORTS = ("none", "truth", "number", "text", "list", "record")


def of_sort(word):
    return with_part(word, ANY[SORTS.index(word)])


def with_part(word, part):
    place = SORTS.index(word)
    return NOTHING[:place] + (part,) + NOTHING[place + 1:]


def of_truth(truth):
    return with_part("truth", (truth,))


def of_numbers(low, high):
    return with_part("number", spans_of([(low, high)]))


def of_text(text):
    return with_part("text", ("only", (text,)))


def of_list(kinds, more=False):
    form = ALL_LISTS if more else ("first", True, ())
    for kind in reversed(kinds):
        form = NO_LISTS if kind == NOTHING or form == NO_LISTS else ("first", False, ((kind, form),))
    return with_part("list", form)


# The forms within look at later names alone: so the last name comes first.
def of_record(fields, more=False):
    form = ("rest", True, more)
    for name, kind, must in sorted(fields, key=lambda field: field[0], reverse=True):
        form = with_field(name, kind, must, form, more)
    return with_part("record", form)


# All that such a form lets in stays in with a name more, where there may be more, and nothing of it does, where not:
# so needless names are seen without opening it.
def with_field(name, kind, must, form, more):
    absent = NO_RECORDS if must else form
    if kind == NOTHING or form == NO_RECORDS:
        return ("name", name, absent, ()) if more and absent != NO_RECORDS else absent
    if kind == ANY and more and not must:
        return absent
    return ("name", name, absent, ((kind, form),))


def just(thing):
    if thing[0] == "none":
        return of_sort("none")
    if thing[0] == "truth":
        return of_truth(thing[1])
    if thing[0] == "number":
        return of_numbers(thing[1], thing[1])
    if thing[0] == "text":
        return of_text(thing[1])
    if thing[0] == "list":
        return of_list([just(item) for item in thing[1]])
    return of_record([(name, just(value), True) for name, value in thing[1]])
