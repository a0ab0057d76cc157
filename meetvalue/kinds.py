"""Kinds, sets of things, each told in its one form, and how two of them are mixed."""

from meetvalue.spans import mixed_spans
from meetvalue.texts import mixed_texts, mixed_truth

NO_LISTS = ("no",)
ALL_LISTS = ("all",)
NO_RECORDS = ("rest", False, False)
ALL_RECORDS = ("rest", True, True)
NOTHING = (False, (), (), ("only", ()), ("no",), ("rest", False, False))
ANY = (True, (False, True), (((), ()),), ("but", ()), ("all",), ("rest", True, True))


def meet(one, other):
    return mixed("and", one, other)


def join(one, other):
    return mixed("or", one, other)


def less(one, other):
    return mixed("less", one, other)


def mixed(word, one, other):
    told = at_once(word, one, other, NOTHING, ANY)
    if told is not None:
        return told
    return (
        mixed_truth(word, one[0], other[0]),
        tuple([truth for truth in (False, True) if mixed_truth(word, truth in one[1], truth in other[1])]),
        mixed_spans(word, one[2], other[2]),
        mixed_texts(word, one[3], other[3]),
        mixed_lists(word, one[4], other[4]),
        mixed_records(word, one[5], other[5]),
    )


# What takes no look within, of kinds and forms alike; None where it takes one.
# Without it, all lists mixed with all lists would never come to an end.
def at_once(word, one, other, none, whole):
    if one == other:
        return none if word == "less" else one
    if word == "and":
        return decided(one, other, none, whole)
    if word == "or":
        return decided(one, other, whole, none)
    if one == none or other == whole:
        return none
    return one if other == none else None


# The strong one decides alone, the weak one leaves it to the other.
def decided(one, other, strong, weak):
    if one == strong or other == strong:
        return strong
    if one == weak:
        return other
    return one if other == weak else None


# The cells (kind, form, other form) into which the branches of both part the things: those of the kind go on
# with the two forms, where none stands for no branch. Left out are cells in which the mixing lets nothing in anyway.
def cells_of(word, one, other, none):
    cells = []
    for kind, form in one:
        left = kind
        for other_kind, other_form in other:
            both = meet(kind, other_kind)
            if both != NOTHING:
                cells.append((both, form, other_form))
                left = left if word == "and" else less(left, both)
        if word != "and":
            cells.append((left, form, none))
    if word == "or":
        for kind, form in other:
            cells.append((outside(kind, one), none, form))
    return cells


def outside(kind, branches):
    left = kind
    for taken, form in branches:
        left = less(left, taken)
    return left


# Branches in their one form, of pairs (kind, form) of which no two kinds have a thing in common.
def branches_of(pairs, none):
    kinds = []
    forms = []
    for kind, form in pairs:
        if kind != NOTHING and form != none:
            if form in forms:
                place = forms.index(form)
                kinds[place] = join(kinds[place], kind)
            else:
                kinds.append(kind)
                forms.append(form)
    return tuple(sorted(zip(kinds, forms)))


def list_form(end, pairs):
    branches = branches_of(pairs, NO_LISTS)
    if not end and branches == ():
        return NO_LISTS
    if end and branches == ((ANY, ALL_LISTS),):
        return ALL_LISTS
    return ("first", end, branches)


def mixed_lists(word, one, other):
    told = at_once(word, one, other, NO_LISTS, ALL_LISTS)
    if told is not None:
        return told
    one_first = with_first(one)
    other_first = with_first(other)
    pairs = []
    for kind, form, other_form in cells_of(word, one_first[2], other_first[2], NO_LISTS):
        pairs.append((kind, mixed_lists(word, form, other_form)))
    return list_form(mixed_truth(word, one_first[1], other_first[1]), pairs)


def with_first(form):
    return ("first", True, ((ANY, ALL_LISTS),)) if form == ALL_LISTS else form


def record_form(name, absent, pairs):
    branches = branches_of(pairs, NO_RECORDS)
    if may_be_needless(branches) and branches == unseen(opened(absent)):
        return absent
    return ("name", name, absent, branches)


# Spares opening the form where a look tells that the name is not needless.
def may_be_needless(branches):
    return branches == () or branches[0][0] == ANY


# The branches of a name that isn't looked at, by the form opened.
def unseen(wide):
    return () if wide == NO_RECORDS else ((ANY, wide),)


# Absent and a branch often have the same form: opened once, it takes no longer the more names there are.
# A form that stays the same is given back itself, as Python compares what is one object at once.
def opened(form):
    if form[0] == "rest":
        return ("rest", form[2], form[2])
    absent = form[2]
    wide = opened(absent)
    pairs = [(kind, wide if inner == absent else opened(inner)) for kind, inner in form[3]]
    branches = branches_of(pairs, NO_RECORDS)
    # What is opened stays so when it is opened again.
    if branches == unseen(wide):
        return wide
    told = ("name", form[1], wide, branches)
    return form if told == form else told


def mixed_records(word, one, other):
    told = at_once(word, one, other, NO_RECORDS, ALL_RECORDS)
    if told is not None:
        return told
    if one[0] == "rest" and other[0] == "rest":
        return ("rest", mixed_truth(word, one[1], other[1]), mixed_truth(word, one[2], other[2]))
    name = min([form[1] for form in (one, other) if form[0] == "name"])
    return mixed_at(name, word, with_name(name, one), with_name(name, other))


def with_name(name, form):
    if form[0] == "name" and form[1] == name:
        return form
    return ("name", name, form, unseen(opened(form)))


# Again, the same two forms are mixed once only.
def mixed_at(name, word, one, other):
    absent = mixed_records(word, one[2], other[2])
    pairs = []
    for kind, form, other_form in cells_of(word, one[3], other[3], NO_RECORDS):
        alike = form == one[2] and other_form == other[2]
        pairs.append((kind, absent if alike else mixed_records(word, form, other_form)))
    return record_form(name, absent, pairs)
