"""The kind of an expression."""

from meetvalue.making import of_numbers, of_sort, of_text, of_truth
from meetvalue.mixing import list_form, mixed_kinds, mixed_together, part_in, record_form
from meetvalue.tables import ALL_LISTS, ANY, NO_LISTS, NO_RECORDS, NOTHING, Table, entered, told


def kind_of(tree, root):
    table = Table()
    return told(table, kind_in(table, tree, entered(table, root)))


# The kind's number in a table, by that of the root. Places stand within "&" and "|" alone: all else is the same by
# any root.
def kind_in(table, tree, root):
    if tree[0] == "place":
        return part_in(table, root, tree[1])
    if tree[0] in ("and", "or"):
        return mixed_together(table, tree[0], [kind_in(table, inner, root) for inner in tree[1]])
    if tree not in table.trees:
        table.trees[tree] = kind_without_places(table, tree)
    return table.trees[tree]


def kind_without_places(table, tree):
    if tree[0] == "word":
        return kind_of_word(table, tree[1])
    if tree[0] == "span":
        return entered(table, of_numbers(tree[1], tree[2]))
    if tree[0] == "text":
        return entered(table, of_text(tree[1]))
    if tree[0] == "not":
        return mixed_kinds(table, "less", ANY, kind_in(table, tree[1], NOTHING))
    if tree[0] == "list":
        return with_forms(table, list_form_of(table, tree), NO_RECORDS)
    return with_forms(table, NO_LISTS, record_form_of(table, tree))


def kind_of_word(table, word):
    if word in ("any", "nothing"):
        return ANY if word == "any" else NOTHING
    return entered(table, of_truth(word == "yes") if word in ("yes", "no") else of_sort(word))


def with_forms(table, lists, records):
    return table.number(table.nodes[NOTHING][:4] + (lists, records))


def list_form_of(table, tree):
    form = ALL_LISTS if tree[2] else table.number(("first", True, ()))
    for item in reversed(tree[1]):
        form = list_form(table, False, [(kind_in(table, item, NOTHING), form)])
    return form


# The forms within look at later names alone: so the last name comes first.
def record_form_of(table, tree):
    form = table.number(("rest", True, tree[2]))
    for name, inner, must in sorted(tree[1], key=lambda field: field[0], reverse=True):
        form = record_form(table, name, NO_RECORDS if must else form, [(kind_in(table, inner, NOTHING), form)])
    return form
