"""The ways through a form of a table, each of them a plain row of items or fields."""

from meetvalue.tables import ALL_LISTS, NO_RECORDS


# How many ways there are; counts has what was counted before, by the forms' numbers.
def count_ways(table, counts, form):
    waiting = [form]
    while len(waiting) > 0:
        here = waiting[-1]
        inner = [step[0] for step in steps_from(table, here)]
        lacking = [] if here in counts else [number for number in inner if number not in counts]
        waiting.extend(lacking)
        if len(lacking) == 0:
            if here not in counts:
                counts[here] = ways_that_end(table, here) + sum([counts[number] for number in inner])
            waiting.pop()
    return counts[form]


def ways_that_end(table, form):
    node = table.nodes[form]
    if node[0] == "first":
        return 1 if node[1] else 0
    return 1 if form == ALL_LISTS or (node[0] == "rest" and form != NO_RECORDS) else 0


# The steps (form behind it, what is taken): a kind for lists, a tuple (name, kind, may have it, may lack it) for
# records. Where records with and without a name go on alike, that is one step.
def steps_from(table, form):
    node = table.nodes[form]
    if node[0] == "first":
        return [(inner, kind) for kind, inner in node[2]]
    if node[0] != "name":
        return []
    steps = [(inner, (node[1], kind, True, inner == node[2])) for kind, inner in node[3]]
    if node[2] == NO_RECORDS or any([step[1][3] for step in steps]):
        return steps
    return steps + [(node[2], (node[1], None, False, True))]


# Each way as a tuple (what was taken, a list; the node in which it ends).
def ways_of(table, form):
    found = []
    taken = []
    waiting = [(form, 0, None)]
    while len(waiting) > 0:
        last = waiting.pop()
        while len(taken) > last[1]:
            taken.pop()
        if last[2] is not None:
            taken.append(last[2])
        if ways_that_end(table, last[0]) == 1:
            found.append((list(taken), table.nodes[last[0]]))
        for inner, step in reversed(steps_from(table, last[0])):
            waiting.append((inner, len(taken), step))
    return found
