"""The making of kinds."""

from meetvalue.kinds import ALL_LISTS, ANY, NO_RECORDS, NOTHING, list_form, record_form
from meetvalue.spans import spans_of

# As their parts stand in a kind; a thing begins with the same words.
SORTS = ("none", "truth", "number", "text", "list", "record")


def of_sort(word):
    return with_part(word, ANY[SORTS.index(word)])


def with_part(word, part):
    place = SORTS.index(word)
    return NOTHING[:place] + (part,) + NOTHING[place + 1:]


def of_truth(truth):
    return with_part("truth", (truth,))


def of_numbers(low, high):
    return with_part("number", spans_of([(low, high)]))


def of_text(text):
    return with_part("text", ("only", (text,)))


def of_list(kinds, more=False):
    form = ALL_LISTS if more else ("first", True, ())
    for kind in reversed(kinds):
        form = list_form(False, [(kind, form)])
    return with_part("list", form)


# The forms within look at later names alone: so the last name comes first.
def of_record(fields, more=False):
    form = ("rest", True, more)
    for name, kind, must in sorted(fields, key=lambda field: field[0], reverse=True):
        form = record_form(name, NO_RECORDS if must else form, [(kind, form)])
    return with_part("record", form)


def just(thing):
    if thing[0] == "none":
        return of_sort("none")
    if thing[0] == "truth":
        return of_truth(thing[1])
    if thing[0] == "number":
        return of_numbers(thing[1], thing[1])
    if thing[0] == "text":
        return of_text(thing[1])
    if thing[0] == "list":
        return of_list([just(item) for item in thing[1]])
    return of_record([(name, just(value), True) for name, value in thing[1]])
