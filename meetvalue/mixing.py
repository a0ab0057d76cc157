"""How kinds and forms of a table are mixed and opened."""

from meetvalue.spans import mixed_spans
from meetvalue.tables import ALL_LISTS, ALL_RECORDS, ANY, NO_LISTS, NO_RECORDS, NOTHING, in_order
from meetvalue.texts import mixed_texts, mixed_truth


def mixed_kinds(table, word, one, other):
    known = at_once(word, one, other, NOTHING, ANY)
    if known is not None:
        return known
    if word != "or" and are_apart(table.nodes[one], table.nodes[other]):
        return NOTHING if word == "and" else one
    if (word, one, other) not in table.mixes:
        table.mixes[(word, one, other)] = mixed_anew(table, word, table.nodes[one], table.nodes[other])
    return table.mixes[(word, one, other)]


def mixed_anew(table, word, one, other):
    return table.number((
        mixed_truth(word, one[0], other[0]),
        tuple([truth for truth in (False, True) if mixed_truth(word, truth in one[1], truth in other[1])]),
        mixed_spans(word, one[2], other[2]),
        mixed_texts(word, one[3], other[3]),
        mixed_forms(table, word, one[4], other[4], NO_LISTS, ALL_LISTS),
        mixed_forms(table, word, one[5], other[5], NO_RECORDS, ALL_RECORDS),
    ))


# True where a short look tells that two kinds have no thing in common: so it is with most pairs of many branches.
def are_apart(one, other):
    if (one[0] and other[0]) or (one[1] != () and other[1] != ()):
        return False
    if (one[4] != NO_LISTS and other[4] != NO_LISTS) or (one[5] != NO_RECORDS and other[5] != NO_RECORDS):
        return False
    if one[3][0] == "but" or other[3][0] == "but":
        return False
    return (are_ahead(one[3][1], other[3][1]) or are_ahead(other[3][1], one[3][1])) and (
        spans_are_ahead(one[2], other[2]) or spans_are_ahead(other[2], one[2])
    )


def are_ahead(one, other):
    return one == () or other == () or one[-1] < other[0]


# No number is below a low without a least number, (), as no tuple is sorted ahead of it.
def spans_are_ahead(one, other):
    if one == () or other == ():
        return True
    high = one[-1][1]
    return high != () and high < other[0][0]


# What takes no look within, of kinds and forms alike; None where it takes one.
# Without it, all lists mixed with all lists would never come to an end.
def at_once(word, one, other, none, whole):
    if one == other:
        return none if word == "less" else one
    if word == "and":
        return decided(one, other, none, whole)
    if word == "or":
        return decided(one, other, whole, none)
    if one == none or other == whole:
        return none
    return one if other == none else None


# The strong one decides alone, the weak one leaves it to the other.
def decided(one, other, strong, weak):
    if one == strong or other == strong:
        return strong
    if one == weak:
        return other
    return one if other == weak else None


# Two forms of lists, or two of records; none and whole are the forms that let in none and all of them.
# What waits stands in the place of recursion, as forms are nested as deep as lists are long.
def mixed_forms(table, word, one, other, none, whole):
    waiting = [(one, other)]
    plans = {}
    while len(waiting) > 0:
        pair = waiting[-1]
        if mixed_before(table, word, pair, none, whole) is None:
            if pair not in plans:
                plans[pair] = plan_of(table, word, pair)
            forms = [mixed_before(table, word, inner, none, whole) for inner in plans[pair][2]]
            if None in forms:
                waiting.extend([inner for inner, form in zip(plans[pair][2], forms) if form is None])
            else:
                table.mixes[(word,) + pair] = by_plan(table, plans[pair], forms)
        else:
            waiting.pop()
    return mixed_before(table, word, (one, other), none, whole)


def mixed_before(table, word, pair, none, whole):
    known = at_once(word, pair[0], pair[1], none, whole)
    return table.mixes.get((word,) + pair) if known is None else known


# A plan is a tuple (start, kinds, pairs): how the form that comes of it starts, the kinds of its branches, and for
# each of them the pair of forms whose mixing goes with it; with a name, a pair for the records without it comes first.
def plan_of(table, word, pair):
    one = table.nodes[pair[0]]
    other = table.nodes[pair[1]]
    if one[0] == "rest" and other[0] == "rest":
        return (("rest", mixed_truth(word, one[1], other[1]), mixed_truth(word, one[2], other[2])), [], [])
    names = [node[1] for node in (one, other) if node[0] == "name"]
    if names == []:
        one = with_first(one)
        other = with_first(other)
        cells = cells_of(table, word, one[2], other[2], NO_LISTS)
        start = ("first", mixed_truth(word, one[1], other[1]))
        return (start, [kind for kind, inner in cells], [inner for kind, inner in cells])
    one = with_name(table, min(names), pair[0])
    other = with_name(table, min(names), pair[1])
    cells = cells_of(table, word, one[3], other[3], NO_RECORDS)
    absent = [(one[2], other[2])]
    return (("name", min(names)), [kind for kind, inner in cells], absent + [inner for kind, inner in cells])


def by_plan(table, plan, forms):
    start = plan[0]
    if start[0] == "rest":
        return table.number(start)
    if start[0] == "first":
        return list_form(table, start[1], list(zip(plan[1], forms)))
    return record_form(table, start[1], forms[0], list(zip(plan[1], forms[1:])))


# The cells (kind, (form, other form)) into which the branches of both part the things: those of the kind go on with
# the two forms, where none stands for no branch. Left out are cells in which the mixing lets nothing in anyway.
def cells_of(table, word, one, other, none):
    cells = []
    for kind, form in one:
        left = kind
        for other_kind, other_form in other:
            both = mixed_kinds(table, "and", kind, other_kind)
            if both != NOTHING:
                cells.append((both, (form, other_form)))
                left = left if word == "and" else mixed_kinds(table, "less", left, both)
        if word != "and":
            cells.append((left, (form, none)))
    if word == "or":
        for kind, form in other:
            cells.append((outside(table, kind, one), (none, form)))
    return [cell for cell in cells if cell[0] != NOTHING]


def outside(table, kind, branches):
    left = kind
    for taken, form in branches:
        left = mixed_kinds(table, "less", left, taken)
    return left


# Branches in their one form, of pairs (kind, form) of which no two kinds have a thing in common.
def branches_of(table, pairs, none):
    kinds = {}
    for kind, form in pairs:
        if kind != NOTHING and form != none:
            kinds[form] = mixed_kinds(table, "or", kinds.get(form, NOTHING), kind)
    return in_order(table, [(kind, form) for form, kind in kinds.items()])


def list_form(table, end, pairs):
    branches = branches_of(table, pairs, NO_LISTS)
    if not end and branches == ():
        return NO_LISTS
    if end and branches == ((ANY, ALL_LISTS),):
        return ALL_LISTS
    return table.number(("first", end, branches))


def with_first(node):
    return ("first", True, ((ANY, ALL_LISTS),)) if node == ("all",) else node


def record_form(table, name, absent, pairs):
    branches = branches_of(table, pairs, NO_RECORDS)
    if may_be_needless(branches) and branches == unseen(opened_form(table, absent)):
        return absent
    return table.number(("name", name, absent, branches))


# Spares opening the form where a look tells that the name is not needless.
def may_be_needless(branches):
    return branches == () or branches[0][0] == ANY


# The branches of a name that isn't looked at, by the form opened.
def unseen(wide):
    return () if wide == NO_RECORDS else ((ANY, wide),)


def with_name(table, name, form):
    node = table.nodes[form]
    if node[0] == "name" and node[1] == name:
        return node
    return ("name", name, form, unseen(opened_form(table, form)))


def opened_form(table, form):
    waiting = [form]
    while len(waiting) > 0:
        here = waiting[-1]
        node = table.nodes[here]
        if node[0] == "rest":
            table.wide[here] = table.number(("rest", node[2], node[2]))
        lacking = [] if here in table.wide else lacking_within(table, node)
        waiting.extend(lacking)
        if len(lacking) == 0:
            if here not in table.wide:
                table.wide[here] = opened_node(table, node)
            waiting.pop()
    return table.wide[form]


def lacking_within(table, node):
    return [inner for inner in [node[2]] + [form for kind, form in node[3]] if inner not in table.wide]


# What is opened stays so when it is opened again: so a name is needless here where its branches are those of wide.
def opened_node(table, node):
    wide = table.wide[node[2]]
    branches = branches_of(table, [(kind, table.wide[form]) for kind, form in node[3]], NO_RECORDS)
    return wide if branches == unseen(wide) else table.number(("name", node[1], wide, branches))


# Neighbours first, then what came of them: so with many kinds most of the mixing is of small ones.
def mixed_together(table, word, kinds):
    left = list(kinds)
    while len(left) > 1:
        odd = left[len(left) - 1:] if len(left) % 2 == 1 else []
        left = [mixed_kinds(table, word, one, other) for one, other in zip(left[::2], left[1::2])] + odd
    return left[0]


# The kind of all that a kind's things have at a path.
def part_in(table, kind, path):
    here = kind
    for name in path:
        if (here, name) not in table.parts:
            table.parts[(here, name)] = part_at(table, here, name)
        here = table.parts[(here, name)]
    return here


# Forms that look at earlier names are walked through.
def part_at(table, kind, name):
    waiting = [table.nodes[kind][5]]
    met = {waiting[0]: True}
    found = []
    while len(waiting) > 0:
        form = waiting.pop()
        node = table.nodes[form]
        if node[0] == "name" and node[1] == name:
            found.extend([inner_kind for inner_kind, inner in node[3]])
        elif node[0] == "name" and node[1] < name:
            for inner in [node[2]] + [behind for inner_kind, behind in node[3]]:
                if inner not in met:
                    met[inner] = True
                    waiting.append(inner)
        elif opened_form(table, form) != NO_RECORDS:
            return ANY
    return mixed_together(table, "or", [NOTHING] + found)
