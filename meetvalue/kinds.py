"""Kinds, sets of things, each told in its one form, and how two of them are mixed."""

from meetvalue.mixing import mixed_kinds, opened_form
from meetvalue.tables import Table, entered, entered_form, told

NO_LISTS = ("no",)
ALL_LISTS = ("all",)
NO_RECORDS = ("rest", False, False)
NOTHING = (False, (), (), ("only", ()), ("no",), ("rest", False, False))
ANY = (True, (False, True), (((), ()),), ("but", ()), ("all",), ("rest", True, True))


def meet(one, other):
    return mixed("and", one, other)


def join(one, other):
    return mixed("or", one, other)


def less(one, other):
    return mixed("less", one, other)


def mixed(word, one, other):
    table = Table()
    return told(table, mixed_kinds(table, word, entered(table, one), entered(table, other)))


# As == tells, which goes too deep with long lists.
def are_same(one, other):
    table = Table()
    return entered(table, one) == entered(table, other)


def opened(form):
    table = Table()
    return told(table, opened_form(table, entered_form(table, form)))
