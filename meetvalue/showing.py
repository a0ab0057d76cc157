"""Things and kinds shown as expressions."""

from meetvalue.covers import cover_of
from meetvalue.cuts import parted
from meetvalue.mixing import mixed_forms, mixed_kinds
from meetvalue.tables import ALL_LISTS, ALL_RECORDS, ANY, NO_LISTS, NO_RECORDS, NOTHING, Table, entered
from meetvalue.ways import count_ways, ways_of

# Up to so many alternatives are told as they are found; and what is parted is parted again up to so many times.
FEW_WAYS = 4
MOST_PARTING = 60
# Forms nested no deeper are told by fewer rows of fields, where there are.
MOST_DEPTH = 150


def shown_thing(thing):
    if thing[0] == "none":
        return "none"
    if thing[0] == "truth":
        return shown_truth(thing[1])
    if thing[0] == "number":
        return str(thing[1])
    if thing[0] == "text":
        return quoted(thing[1])
    if thing[0] == "list":
        return "[" + ", ".join([shown_thing(item) for item in thing[1]]) + "]"
    return "{" + ", ".join([f"{name}: " + shown_thing(value) for name, value in thing[1]]) + "}"


def shown_truth(truth):
    return "yes" if truth else "no"


def quoted(text):
    return "\"" + text + "\""


def shown(kind):
    table = Table()
    return shown_kind(Sheet(table), entered(table, kind))


# What has been shown and counted, by numbers of the table: many items and fields are of the same kind.
class Sheet:
    def __init__(self, table):
        self.table = table
        self.shown_kinds = {}
        self.counts = {}
        self.plans = {}
        self.covers = {}


def shown_kind(sheet, kind):
    if kind not in sheet.shown_kinds:
        sheet.shown_kinds[kind] = shown_anew(sheet, kind)
    return sheet.shown_kinds[kind]


# A kind with most of the things is shown shorter by those that it lacks.
def shown_anew(sheet, kind):
    if kind == NOTHING or kind == ANY:
        return "nothing" if kind == NOTHING else "any"
    others = mixed_kinds(sheet.table, "less", ANY, kind)
    if weight(sheet, others) < weight(sheet, kind):
        return negated(" | ".join(alternatives(sheet, others)))
    return " | ".join(alternatives(sheet, kind))


# Brackets more than are needed, as round a text in which such a sign is quoted, do no harm.
def negated(text):
    return f"!({text})" if " | " in text or " & " in text else f"!{text}"


# How many alternatives it takes to show a kind.
def weight(sheet, kind):
    node = sheet.table.nodes[kind]
    plain = [1 for truth in (node[0], node[1] != (), node[3][0] == "but") if truth]
    lists = plan_of(sheet, node[4], NO_LISTS, ALL_LISTS, MOST_PARTING)[0]
    records = plan_of(sheet, node[5], NO_RECORDS, ALL_RECORDS, MOST_PARTING)[0]
    return len(plain) + len(node[2]) + len(node[3][1]) + lists + records


def alternatives(sheet, kind):
    node = sheet.table.nodes[kind]
    shown_parts = ["none"] if node[0] else []
    if node[1] != ():
        shown_parts.append("truth" if len(node[1]) == 2 else shown_truth(node[1][0]))
    shown_parts.extend([shown_span(low, high) for low, high in node[2]])
    shown_parts.extend(shown_texts(node[3]))
    shown_parts.extend(shown_form(sheet, node[4], NO_LISTS, ALL_LISTS, "list"))
    shown_parts.extend(shown_form(sheet, node[5], NO_RECORDS, ALL_RECORDS, "record"))
    return shown_parts


def shown_span(low, high):
    if low == () and high == ():
        return "number"
    if low == high:
        return str(low[0])
    return "..".join([str(end[0]) if end != () else "" for end in (low, high)])


def shown_texts(texts):
    if texts[0] == "only":
        return [quoted(text) for text in texts[1]]
    return [" & ".join(["text"] + ["!" + quoted(text) for text in texts[1]])]


# How lists alone, or records alone, are shown: a tuple (how many alternatives it takes, word, forms). By the word
# "ways" all ways through the form are told, by "less" those through all others; by "and" and "or" it is mixed of forms.
def plan_of(sheet, form, none, whole, parting):
    if form not in sheet.plans:
        others = mixed_forms(sheet.table, "less", whole, form, none, whole)
        plans = [(fewest_ways(sheet, form), "ways", [form]), (1 + fewest_ways(sheet, others), "less", [others])]
        if whole == ALL_RECORDS and parting > 0 and min([plan[0] for plan in plans]) > FEW_WAYS:
            plans.extend(plans_of_parts(sheet, form, others, parting - 1))
        sheet.plans[form] = min(plans, key=lambda plan: plan[0])
    return sheet.plans[form]


def fewest_ways(sheet, form):
    cover = cover_for(sheet, form)
    return count_ways(sheet.table, sheet.counts, form) if cover is None else len(cover)


# None where the ways through the form are told as they are.
def cover_for(sheet, form):
    if form not in sheet.covers:
        small = sheet.table.depths[form] <= MOST_DEPTH and count_ways(sheet.table, sheet.counts, form) > 1
        with_names = sheet.table.nodes[form][0] == "name"
        sheet.covers[form] = cover_of(sheet.table, form) if small and with_names else None
    return sheet.covers[form]


# Others parted into what meets in them: then all but each of these are joined in the form.
def plans_of_parts(sheet, form, others, parting):
    table = sheet.table
    met = parted(table, sheet.counts, form)
    joined = []
    for part in parted(table, sheet.counts, others):
        joined.append(mixed_forms(table, "less", ALL_RECORDS, part, NO_RECORDS, ALL_RECORDS))
    plans = []
    for word, forms in (("and", met), ("or", joined)):
        if len(forms) > 1:
            weights = [plan_of(sheet, part, NO_RECORDS, ALL_RECORDS, parting)[0] for part in forms]
            plans.append((sum(weights), word, forms))
    return plans


# The alternatives of lists alone, or of records alone; sort is the word for all of them.
def shown_form(sheet, form, none, whole, sort):
    if form == whole:
        return [sort]
    plan = plan_of(sheet, form, none, whole, MOST_PARTING)
    if plan[1] == "ways":
        return shown_ways(sheet, form)
    if plan[1] == "less":
        return [" & ".join([sort] + [negated(way) for way in shown_ways(sheet, plan[2][0])])]
    found = [shown_form(sheet, part, none, whole, sort) for part in plan[2]]
    if plan[1] == "and":
        return [" & ".join([met_with(shown_parts) for shown_parts in found])]
    together = []
    for shown_parts in found:
        together.extend(shown_parts)
    return together


def met_with(shown_parts):
    text = " | ".join(shown_parts)
    return f"({text})" if len(shown_parts) > 1 else text


def shown_ways(sheet, form):
    cover = cover_for(sheet, form)
    return [shown_way(sheet, taken, end) for taken, end in (ways_of(sheet.table, form) if cover is None else cover)]


def shown_way(sheet, taken, end):
    if end[0] != "rest":
        items = [shown_kind(sheet, kind) for kind in taken]
        return "[" + ", ".join(items + [".."] if end[0] == "all" else items) + "]"
    shut = "{" + ", ".join([shown_field(sheet, field) for field in taken if field[2]]) + "}"
    narrow = [field for field in taken if field[1] != ANY or not field[3]]
    wide = "{" + ", ".join([shown_field(sheet, field) for field in narrow] + [".."]) + "}"
    if end[2]:
        return wide if end[1] else f"{wide} & !{shut}"
    return shut


# A name that records lack is told by a kind without things, where it isn't left out.
def shown_field(sheet, field):
    start = field[0] + ("?: " if field[3] else ": ")
    return start + (shown_kind(sheet, field[1]) if field[2] else "nothing")
