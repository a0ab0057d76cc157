"""Record forms parted into several whose meeting they are, so that fewer ways lead through them."""

from meetvalue.mixing import opened_form, record_form
from meetvalue.tables import ALL_RECORDS, ANY, NO_RECORDS
from meetvalue.ways import count_ways, steps_from


# The form alone where it can't be parted.
def parted(table, counts, form):
    shut = table.number(("rest", True, False))
    inner = forms_in_order(table, form, None)
    names = names_in_row(table, inner)
    if shut not in inner or names is None:
        return parted_wide(table, counts, form)
    return [shut_form(table, names, shut)] + parted_wide(table, counts, replaced(table, form, shut, ALL_RECORDS))


# The form and all that it goes on with, each ahead of those within it; stop is not gone into.
def forms_in_order(table, form, stop):
    found = {}
    waiting = [form]
    while len(waiting) > 0:
        steps = [] if waiting[-1] == stop else steps_from(table, waiting[-1])
        lacking = [step[0] for step in steps if step[0] not in found]
        if len(lacking) == 0:
            found[waiting.pop()] = True
        waiting.extend(lacking)
    return list(reversed(list(found)))


# The names that are looked at, where all ways look at the same ones and end alike; else None.
def names_in_row(table, forms):
    behind = {}
    for form in forms:
        for step in steps_from(table, form):
            node = table.nodes[step[0]]
            found = node[1] if node[0] == "name" else node
            if behind.setdefault(table.nodes[form][1], found) != found:
                return None
    return sorted(behind)


# Any records that have no other names than these.
def shut_form(table, names, shut):
    form = shut
    for name in reversed(names):
        form = table.number(("name", name, form, ((ANY, form),)))
    return form


# Where all ways lead through a form, the records are those that come to it and those that it lets in: in both. But
# what it lets in must not hang on the names that were looked at ahead of it.
def parted_wide(table, counts, form):
    if opened_form(table, form) != form:
        return [form]
    cuts = cuts_of(table, counts, form)
    starts = [form]
    for here, behind in zip(cuts, [counts[cut] for cut in cuts[1:]] + [1]):
        # A part through which one way leads is told within its neighbour.
        if counts[starts[-1]] > counts[here] > behind:
            starts.append(here)
    return [replaced(table, here, stop, ALL_RECORDS) for here, stop in zip(starts, starts[1:])] + starts[-1:]


# The forms through which all ways lead, but for the end.
def cuts_of(table, counts, form):
    whole = count_ways(table, counts, form)
    forms = forms_in_order(table, form, None)
    leading = dict([(here, 0) for here in forms])
    leading[form] = 1
    for here in forms:
        for step in steps_from(table, here):
            leading[step[0]] += leading[here]
    return [here for here in forms if leading[here] * counts[here] == whole and table.nodes[here][0] == "name"]


# The form with new in the place of old.
def replaced(table, form, old, new):
    done = {NO_RECORDS: NO_RECORDS, old: new}
    for here in reversed(forms_in_order(table, form, old)):
        if here not in done:
            node = table.nodes[here]
            if node[0] == "name":
                pairs = [(kind, done[inner]) for kind, inner in node[3]]
                done[here] = record_form(table, node[1], done[node[2]], pairs)
            else:
                done[here] = here
    return done[form]
